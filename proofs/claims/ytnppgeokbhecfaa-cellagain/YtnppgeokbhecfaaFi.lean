/- Whole numbers as floats: floors, whole parts, exactness, and that rounding keeps the order. Plain mathematics over the model's floats; no program. -/
import Derived.Test.YtnppgeokbhecfaaFs
import Derived.Test.YtnppgeokbhecfaaW3
namespace Go.Proofs.Ytnppgeokbhecfaa
open Ieee

/-- The float nearest to a whole number. -/
def ofW (n : Int) : Nat := Ieee.double.nearest (decide (n < 0)) n.natAbs 0
theorem nearest_of (n : Int) : FloatKind.f64.nearest n = ofW n := rfl

def pw (n : Nat) : Nat := 2 ^ n
theorem pw_add {n c : Nat} (h : c ≤ n) : pw n = 2 ^ (n - c) * 2 ^ c := by unfold pw; rw [← Nat.pow_add, Nat.sub_add_cancel h]
theorem pw_sub {n c : Nat} (h : n ≤ c) : 2 ^ c = 2 ^ (c - n) * pw n := by unfold pw; rw [← Nat.pow_add, Nat.sub_add_cancel h]
theorem pw_pos (n : Nat) : 0 < pw n := Nat.two_pow_pos _
/-- How many of the least steps make 1. -/
def UU : Nat := pw 1074
theorem UU_pos : 0 < UU := pw_pos _
theorem UU_low {c : Nat} (h : c ≤ 1074) : UU = 2 ^ (1074 - c) * 2 ^ c := pw_add h
theorem UU_high {c : Nat} (h : 1074 ≤ c) : 2 ^ c = 2 ^ (c - 1074) * UU := pw_sub h

theorem int_word (s : Bool) {M : Nat} (h0 : M ≠ 0) (h : M ≤ 9007199254740992) :
    ∃ r, Ieee.double.nearest s M 0 = Ieee.double.word s r ∧ 4607182418800017408 ≤ r ∧ r ≤ 4845873199050653696 ∧ V r = M * UU := by
  by_cases h1 : M = 9007199254740992
  · refine ⟨4845873199050653696, ?_, by omega, by omega, ?_⟩
    · have e1 := nearest_scale s 4503599627370496 1 1
      have e2 := nearest_norm s (M := 4503599627370496) (E := 1076) (by omega) (by omega) (by omega) (by omega)
      rw [show (4503599627370496 * 2 ^ 1 : Nat) = 9007199254740992 from rfl, show (1 : Int) - ((1 : Nat) : Int) = 0 from rfl] at e1
      rw [h1, e1]
      exact e2
    · rw [h1]
      unfold V
      have hu := UU_high (c := 1075) (by omega)
      rw [show mag 4845873199050653696 = 4503599627370496 by decide, show sh 4845873199050653696 = 1075 by decide, hu, show (1075 - 1074 : Nat) = 1 from rfl, Nat.pow_one]
      omega
  · have hk : M.log2 ≤ 52 := by
      have : M.log2 < 53 := by rw [Nat.log2_lt h0]; omega
      omega
    have l1 := Nat.log2_self_le h0
    have l2 := @Nat.lt_log2_self M
    have m1 : 4503599627370496 ≤ M * 2 ^ (52 - M.log2) := by
      have := Nat.mul_le_mul_right (2 ^ (52 - M.log2)) l1
      rw [← Nat.pow_add, show M.log2 + (52 - M.log2) = 52 by omega] at this
      exact this
    have m2 : M * 2 ^ (52 - M.log2) < 9007199254740992 := by
      have := Nat.mul_lt_mul_of_pos_right l2 (Nat.two_pow_pos (52 - M.log2))
      rw [← Nat.pow_add, show M.log2 + 1 + (52 - M.log2) = 53 by omega] at this
      exact this
    have e2 := nearest_norm s (E := M.log2 + 1023) m1 m2 (by omega) (by omega)
    have e1 := nearest_scale s M 0 (52 - M.log2)
    rw [show (0 : Int) - ((52 - M.log2 : Nat) : Int) = ((M.log2 + 1023 : Nat) : Int) - 1075 by omega] at e1
    obtain ⟨g1, g2⟩ := mag_of (E := M.log2 + 1023) m1 m2 (by omega)
    refine ⟨_, e1.symm.trans e2, by omega, by omega, ?_⟩
    unfold V
    have hu := UU_low (c := M.log2 + 1023 - 1) (by omega)
    rw [show 1074 - (M.log2 + 1023 - 1) = 52 - M.log2 by omega] at hu
    rw [g1, g2, Nat.mul_assoc, ← hu]

theorem wn_V (r : Nat) : wn r = V r / UU := by
  unfold wn V
  split
  · rename_i c
    rw [UU_high c, ← Nat.mul_assoc, Nat.mul_div_cancel _ UU_pos]
  · rename_i c
    rw [UU_low (c := sh r) (by omega), Nat.mul_div_mul_right _ _ (Nat.two_pow_pos _)]

/-- The magnitude of the floor of a number of sign s and magnitude r. -/
def fk (s : Bool) (r : Nat) : Nat := wn r + (if s = true ∧ V r % UU ≠ 0 then 1 else 0)

theorem floor_fk {x : Nat} (hx : x < 18446744073709551616) (h : rung x < 9218868437227405312) :
    floorW x = Ieee.double.nearest (negB x) (fk (negB x) (rung x)) 0 := by
  have hn : nanB x = false := by unfold nanB; simp; omega
  unfold floorW
  rw [hn, read_num hx h]
  simp only [Bool.false_eq_true, if_false, Datum.integral, Format.write, cut_down, Nat.shiftLeft_eq]
  congr 1
  unfold fk wn V
  by_cases c : 1074 ≤ sh (rung x)
  · rw [if_pos c, show (-1074 + ((sh (rung x) : Nat) : Int)).toNat = sh (rung x) - 1074 by omega, show (-(-1074 + ((sh (rung x) : Nat) : Int))).toNat = 0 by omega, Nat.pow_zero, Nat.div_one, Nat.mod_one]
    congr 1
    rw [UU_high (by assumption), ← Nat.mul_assoc, Nat.mul_mod_left]
  · rw [if_neg c, show (-1074 + ((sh (rung x) : Nat) : Int)).toNat = 0 by omega, show (-(-1074 + ((sh (rung x) : Nat) : Int))).toNat = 1074 - sh (rung x) by omega, Nat.pow_zero, Nat.mul_one]
    congr 1
    have e : (mag (rung x) * 2 ^ sh (rung x) % UU ≠ 0) ↔ (mag (rung x) % 2 ^ (1074 - sh (rung x)) ≠ 0) := by
      rw [UU_low (c := sh (rung x)) (by omega), Nat.mul_mod_mul_right]
      have := Nat.two_pow_pos (sh (rung x))
      constructor
      · intro h k; apply h; rw [k, Nat.zero_mul]
      · intro h k
        rcases Nat.mul_eq_zero.1 k with k | k
        · exact h k
        · omega
    simp only [e]

/-- Floats from 2^52 on are whole. -/
theorem floor_big {x : Nat} (hx : x < 18446744073709551616) (h : rung x < 9218868437227405312) (hb : 4841369599423283200 ≤ rung x) : floorW x = x := by
  rw [floor_fk hx h]
  have hs : 1074 ≤ sh (rung x) := by unfold sh; omega
  have e1 : V (rung x) % UU = 0 := by
    unfold V
    rw [UU_high (by assumption), ← Nat.mul_assoc, Nat.mul_mod_left]
  have e2 : fk (negB x) (rung x) = mag (rung x) * 2 ^ (sh (rung x) - 1074) := by
    unfold fk; rw [e1]; simp only [ne_eq, not_true_eq_false, and_false, if_false, Nat.add_zero]
    unfold wn; rw [if_pos hs]
  rw [e2]
  have e3 := nearest_scale (negB x) (mag (rung x)) (-1074 + (sh (rung x) : Nat)) (sh (rung x) - 1074)
  rw [show (-1074 : Int) + (sh (rung x) : Nat) - ((sh (rung x) - 1074 : Nat) : Int) = 0 by omega] at e3
  rw [e3, nearest_rung _ (by omega), word_self hx]

theorem wn_small {r : Nat} (h : r < 4841369599423283200) : wn r < 4503599627370496 := by
  have hm := mag_lt r
  have hs : sh r ≤ 1073 := by unfold sh; omega
  unfold wn
  rw [if_neg (by omega)]
  have : 2 ^ 1 ≤ 2 ^ (1074 - sh r) := Nat.pow_le_pow_right (by omega) (by omega)
  exact Nat.div_lt_of_lt_mul (by have := Nat.mul_le_mul_right 4503599627370496 this; omega)
theorem fk_small (s : Bool) {r : Nat} (h : r < 4841369599423283200) : fk s r ≤ 4503599627370496 := by
  have := wn_small h
  unfold fk; split <;> omega

theorem rhe_mono {a b : Nat} (d : Nat) (h : a ≤ b) : rhe a d ≤ rhe b d := by
  have hq : a / 2 ^ d ≤ b / 2 ^ d := Nat.div_le_div_right h
  have ea := Nat.div_add_mod a (2 ^ d)
  have eb := Nat.div_add_mod b (2 ^ d)
  unfold rhe
  by_cases e : a / 2 ^ d = b / 2 ^ d
  · rw [e] at ea
    have hr : a % 2 ^ d ≤ b % 2 ^ d := by omega
    rw [e]
    by_cases c : 2 ^ d < 2 * (a % 2 ^ d) ∨ 2 ^ d = 2 * (a % 2 ^ d) ∧ b / 2 ^ d % 2 = 1
    · rw [if_pos c, if_pos (by omega)]; exact Nat.le_refl _
    · rw [if_neg c]; omega
  · have := @rhe_le a d
    unfold rhe at this
    omega

/-- The rung of a whole number's float. -/
def rI (M : Nat) : Nat := rung (Ieee.double.nearest false M 0)
theorem nearest_rI (s : Bool) (M : Nat) : Ieee.double.nearest s M 0 = Ieee.double.word s (rI M) := by
  unfold rI
  by_cases hM : M = 0
  · subst hM; rw [nearest_zero, nearest_zero, rung_word false (by omega)]
  · rw [nearest_eq s hM, nearest_eq false hM, rung_word false (by omega)]
theorem rI_le (M : Nat) : rI M ≤ 9218868437227405312 := by
  have := nan_f (nearest_nan false M 0); exact this

theorem rI_eq {M : Nat} (h0 : M ≠ 0) (h : M ≤ 9223372036854775808) : ∃ kept, rI M = (M.log2 + 1022) * 4503599627370496 + kept ∧ 4503599627370496 ≤ kept ∧ kept ≤ 9007199254740992 ∧ kept = rhe (M * 2 ^ (52 - M.log2)) (M.log2 - 52) := by
  have hk : M.log2 ≤ 63 := by
    have : M.log2 < 64 := by rw [Nat.log2_lt h0]; omega
    omega
  have l1 := Nat.log2_self_le h0
  have l2 := @Nat.lt_log2_self M
  have e4 : lastP M 0 = (M.log2 : Int) - 52 := by unfold lastP; omega
  have hb : 4503599627370496 ≤ rhe (M * 2 ^ (52 - M.log2)) (M.log2 - 52) ∧ rhe (M * 2 ^ (52 - M.log2)) (M.log2 - 52) ≤ 9007199254740992 := by
    by_cases c : M.log2 ≤ 52
    · rw [show M.log2 - 52 = 0 by omega, rhe_zero]
      have a1 := Nat.mul_le_mul_right (2 ^ (52 - M.log2)) l1
      have a2 := Nat.mul_lt_mul_of_pos_right l2 (Nat.two_pow_pos (52 - M.log2))
      rw [← Nat.pow_add] at a1 a2
      rw [show M.log2 + (52 - M.log2) = 52 by omega] at a1
      rw [show M.log2 + 1 + (52 - M.log2) = 53 by omega] at a2
      exact ⟨a1, Nat.le_of_lt a2⟩
    · rw [show 52 - M.log2 = 0 by omega, Nat.pow_zero, Nat.mul_one]
      have p : (2 : Nat) ^ M.log2 = 4503599627370496 * 2 ^ (M.log2 - 52) := by
        rw [show (4503599627370496 : Nat) = 2 ^ 52 from rfl, ← Nat.pow_add]; congr 1; omega
      have p1 : (2 : Nat) ^ (M.log2 + 1) = 9007199254740992 * 2 ^ (M.log2 - 52) := by
        rw [show (9007199254740992 : Nat) = 2 ^ 53 from rfl, ← Nat.pow_add]; congr 1; omega
      have q1 : 4503599627370496 ≤ M / 2 ^ (M.log2 - 52) := by
        rw [Nat.le_div_iff_mul_le (Nat.two_pow_pos _)]; omega
      have q2 : M / 2 ^ (M.log2 - 52) < 9007199254740992 := by
        rw [Nat.div_lt_iff_lt_mul (Nat.two_pow_pos _)]; omega
      have := rhe_le M (M.log2 - 52)
      constructor
      · unfold rhe; omega
      · omega
  refine ⟨_, ?_, hb.1, hb.2, rfl⟩
  unfold rI
  rw [nearest_eq false h0, e4, show ((M.log2 : Int) - 52 + 1074).toNat = M.log2 + 1022 by omega, show ((0 : Int) - ((M.log2 : Int) - 52)).toNat = 52 - M.log2 by omega, show ((M.log2 : Int) - 52 - 0).toNat = M.log2 - 52 by omega]
  rw [rung_word false (by omega), Nat.min_eq_left (by omega)]

theorem rI_zero : rI 0 = 0 := by unfold rI; rw [nearest_zero]; exact rung_word false (by omega)
theorem rI_pos {M : Nat} (h0 : M ≠ 0) (h : M ≤ 9223372036854775808) : 0 < rI M := by
  obtain ⟨k, e, k1, _⟩ := rI_eq h0 h; omega
theorem rI_mono {a b : Nat} (h : a ≤ b) (hb : b ≤ 9223372036854775808) : rI a ≤ rI b := by
  by_cases h0 : a = 0
  · subst h0; rw [rI_zero]; omega
  obtain ⟨k, e, k1, k2, k3⟩ := rI_eq h0 (by omega)
  obtain ⟨k', e', k1', k2', k3'⟩ := rI_eq (M := b) (by omega) hb
  have hl : a.log2 ≤ b.log2 := by
    rw [Nat.le_log2 (by omega)]; have := Nat.log2_self_le h0; omega
  by_cases c : a.log2 = b.log2
  · rw [e, e', c]
    have : k ≤ k' := by
      rw [k3, k3', c]
      exact rhe_mono _ (Nat.mul_le_mul_right _ h)
    omega
  · rw [e, e']
    clear k3 k3' e e' h hb h0
    generalize a.log2 = x at *
    generalize b.log2 = y at *
    omega

theorem of_lt (n : Int) : ofW n < 18446744073709551616 := nearest_lt64 _ _ _
theorem of_nan (n : Int) : nanB (ofW n) = false := nearest_nan _ _ _
theorem of_neg (n : Int) : negB (ofW n) = decide (n < 0) := nearest_neg _ _ _
theorem of_rung (n : Int) : rung (ofW n) = rI n.natAbs := by
  unfold ofW; rw [nearest_rI, rung_word _ (by have := rI_le n.natAbs; omega)]
theorem of_key (n : Int) : key (ofW n) = if n < 0 then -(rI n.natAbs : Int) else rI n.natAbs := by
  unfold key; rw [of_neg, of_rung]; simp only [decide_eq_true_eq]
theorem of_key_mono {n m : Int} (h : n ≤ m) (h1 : -9223372036854775808 ≤ n) (h2 : m ≤ 9223372036854775807) : key (ofW n) ≤ key (ofW m) := by
  rw [of_key, of_key]
  by_cases c1 : n < 0
  · rw [if_pos c1]
    by_cases c2 : m < 0
    · rw [if_pos c2]
      have := rI_mono (a := m.natAbs) (b := n.natAbs) (by omega) (by omega); omega
    · rw [if_neg c2]; omega
  · rw [if_neg c1, if_neg (by omega)]
    have := rI_mono (a := n.natAbs) (b := m.natAbs) (by omega) (by omega); omega
theorem of_key_pos {n : Int} (h1 : -9223372036854775808 ≤ n) (h2 : n ≤ 9223372036854775807) : (0 < key (ofW n) ↔ 0 < n) ∧ (key (ofW n) < 0 ↔ n < 0) := by
  rw [of_key]
  by_cases c1 : n < 0
  · rw [if_pos c1]
    have := rI_pos (M := n.natAbs) (by omega) (by omega); omega
  · rw [if_neg c1]
    by_cases c2 : n = 0
    · subst c2; rw [show rI (0 : Int).natAbs = 0 from rI_zero]; omega
    · have := rI_pos (M := n.natAbs) (by omega) (by omega); omega

/-- Whole numbers of at most 2^53 in size are themselves again. -/
theorem of_exact {n : Int} (h : n.natAbs ≤ 9007199254740992) : wholeI (ofW n) = n ∧ floorW (ofW n) = ofW n := by
  by_cases c : n = 0
  · subst c
    have e0 : ofW 0 = 0 := nearest_zero false 0
    have v0 : V 0 = 0 := by decide
    have w0 : wn 0 = 0 := by rw [wn_V, v0, Nat.zero_div]
    have r0 : rung 0 = 0 := rfl
    rw [e0]
    constructor
    · unfold wholeI; rw [r0, w0]; rfl
    · rw [floor_fk (by omega) (by omega), r0]; unfold fk; rw [w0, v0]; exact nearest_zero false 0
  obtain ⟨r, e, r1, r2, hv⟩ := int_word (decide (n < 0)) (M := n.natAbs) (by omega) h
  have e' : ofW n = Ieee.double.word (decide (n < 0)) r := e
  have hr : rung (ofW n) = r := by rw [e']; exact rung_word _ (by omega)
  have hw : wn r = n.natAbs := by rw [wn_V, hv, Nat.mul_div_cancel _ UU_pos]
  constructor
  · unfold wholeI
    rw [of_nan, hr, of_neg, hw, if_neg (by simp), if_neg (by omega)]
    simp only [decide_eq_true_eq]; split <;> omega
  · rw [floor_fk (of_lt n) (by omega), of_neg, hr]
    unfold fk
    rw [hw, hv, Nat.mul_mod_left]
    simp only [ne_eq, not_true_eq_false, and_false, if_false, Nat.add_zero]
    rfl

end Go.Proofs.Ytnppgeokbhecfaa
