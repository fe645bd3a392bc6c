/- Scaling by powers of two: a magnitude made normal, its exponent moved, rounded where bits fall off. Plain mathematics over the model's floats; no program. -/
import Derived.Test.YtnppgeokbhecfaaFq
namespace Go.Proofs.Ytnppgeokbhecfaa
open Ieee

/-- A magnitude that is not nought as 'nM * 2 ^ (nE - 1075)', nM of 53 bits. -/
def nM (r : Nat) : Nat := if r < 4503599627370496 then r * 2 ^ (52 - r.log2) else mag r
def nE (r : Nat) : Int := if r < 4503599627370496 then (r.log2 : Int) - 51 else ((r / 4503599627370496 : Nat) : Int)
/-- The word of 'M * 2 ^ (e - 1075)', M of 53 bits, rounded once. -/
def scaleW (s : Bool) (M : Nat) (e : Int) : Nat :=
  if 2047 ≤ e then Ieee.double.word s 9218868437227405312 else if 1 ≤ e then Ieee.double.word s ((e - 1).toNat * 4503599627370496 + M) else Ieee.double.word s (rhe M (1 - e).toNat)
def scaleR (x : Nat) (n : Int) : Nat :=
  if nanB x then 9221120237041090561 else if rung x = 9218868437227405312 ∨ rung x = 0 then x else scaleW (negB x) (nM (rung x)) (nE (rung x) + n)

theorem log2_sub {r : Nat} (h0 : r ≠ 0) (h : r < 4503599627370496) : r.log2 < 52 := by rw [Nat.log2_lt h0]; exact h
theorem nM_ge {r : Nat} (h0 : r ≠ 0) : 4503599627370496 ≤ nM r := by
  unfold nM; split
  · rename_i h
    have h1 := Nat.log2_self_le h0
    have h2 := log2_sub h0 h
    have h3 : 2 ^ r.log2 * 2 ^ (52 - r.log2) ≤ r * 2 ^ (52 - r.log2) := Nat.mul_le_mul_right _ h1
    rw [← Nat.pow_add, show r.log2 + (52 - r.log2) = 52 by omega] at h3
    exact h3
  · unfold mag; split <;> omega
theorem nM_lt {r : Nat} (h0 : r ≠ 0) : nM r < 9007199254740992 := by
  unfold nM; split
  · rename_i h
    have h1 := @Nat.lt_log2_self r
    have h2 := log2_sub h0 h
    have h3 : r * 2 ^ (52 - r.log2) < 2 ^ (r.log2 + 1) * 2 ^ (52 - r.log2) := Nat.mul_lt_mul_of_pos_right h1 (Nat.two_pow_pos _)
    rw [← Nat.pow_add, show r.log2 + 1 + (52 - r.log2) = 53 by omega] at h3
    exact h3
  · exact mag_lt r
theorem nE_range {r : Nat} (h0 : r ≠ 0) (h : r < 9218868437227405312) : -51 ≤ nE r ∧ nE r ≤ 2046 := by
  unfold nE; split
  · rename_i h
    have h2 := log2_sub h0 h; omega
  · omega

theorem log2_norm {M : Nat} (h1 : 4503599627370496 ≤ M) (h2 : M < 9007199254740992) : M.log2 = 52 := by
  have hne : M ≠ 0 := by omega
  apply Nat.le_antisymm
  · have : M.log2 < 53 := by rw [Nat.log2_lt hne]; exact h2
    omega
  · rw [Nat.le_log2 hne]; exact h1

theorem rhe_le (M d : Nat) : rhe M d ≤ M / 2 ^ d + 1 := by unfold rhe; split <;> omega
theorem rhe_small {M d : Nat} (h : 2 * M < 2 ^ d) : rhe M d = 0 := by
  unfold rhe
  rw [Nat.div_eq_of_lt (by omega), Nat.mod_eq_of_lt (by omega), if_neg (by omega)]

/-- The magnitude with fraction M of 53 bits and exponent's bits E. -/
theorem mag_of {M E : Nat} (h1 : 4503599627370496 ≤ M) (h2 : M < 9007199254740992) (hE : 1 ≤ E) : mag (E * 4503599627370496 + (M - 4503599627370496)) = M ∧ sh (E * 4503599627370496 + (M - 4503599627370496)) = E - 1 := by
  unfold mag sh
  constructor
  · rw [if_neg (by omega)]; omega
  · omega

theorem nearest_norm (s : Bool) {M E : Nat} (h1 : 4503599627370496 ≤ M) (h2 : M < 9007199254740992) (hE : 1 ≤ E) (hE2 : E ≤ 2046) :
    Ieee.double.nearest s M ((E : Int) - 1075) = Ieee.double.word s (E * 4503599627370496 + (M - 4503599627370496)) := by
  have h := nearest_rung s (r := E * 4503599627370496 + (M - 4503599627370496)) (by omega)
  obtain ⟨e1, e2⟩ := mag_of h1 h2 hE
  rw [e1, e2] at h
  rw [← h, show (E : Int) - 1075 = -1074 + ((E - 1 : Nat) : Int) by omega]

theorem nearest_sub (s : Bool) {M : Nat} {e : Int} (h1 : 4503599627370496 ≤ M) (h2 : M < 9007199254740992) (he : e ≤ 0) :
    Ieee.double.nearest s M (e - 1075) = Ieee.double.word s (rhe M (1 - e).toNat) := by
  rw [nearest_eq s (by omega)]
  have e4 : lastP M (e - 1075) = -1074 := by unfold lastP; rw [log2_norm h1 h2]; omega
  rw [e4, show ((-1074 : Int) + 1074).toNat = 0 from rfl, show (e - 1075 - -1074).toNat = 0 by omega, show (-1074 - (e - 1075)).toNat = (1 - e).toNat by omega, Nat.pow_zero, Nat.mul_one, Nat.zero_mul, Nat.zero_add]
  have := rhe_le M (1 - e).toNat
  have := Nat.div_le_self M (2 ^ (1 - e).toNat)
  rw [Nat.min_eq_left (by omega)]

theorem word_add (s : Bool) (r : Nat) : Ieee.double.word s r = (if s then 9223372036854775808 else 0) + r := by
  unfold Format.word; rw [sw]; cases s <;> simp

theorem read_word (s : Bool) {r : Nat} (h : r < 9218868437227405312) : Ieee.double.read (Ieee.double.word s r) = .number s (mag r) (-1074 + (sh r : Nat)) := by
  have h1 := rung_word s (r := r) (by omega)
  rw [read_num (word_lt64 s (by omega)) (by omega), h1, neg_word s (by omega)]

/-- A product with a power of two. -/
theorem mul_word (s : Bool) {r m : Nat} {p : Int} (hr : r < 9218868437227405312) (hm : Ieee.double.read m = .number false 4503599627370496 p) :
    Ieee.double.mul m (Ieee.double.word s r) = some (Ieee.double.nearest s (mag r) (-1074 + (sh r : Nat) + p + 52)) := by
  unfold Format.mul
  rw [read_word s hr, hm]
  simp only [Datum.product, Option.map_some, Format.write, Bool.false_bne]
  congr 1
  have := nearest_scale s (mag r) (-1074 + (sh r : Nat) + p + 52) 52
  rw [← this, Nat.mul_comm, show (2 ^ 52 : Nat) = 4503599627370496 from rfl]
  congr 1
  omega

theorem mul_word' (s : Bool) {r m : Nat} {p : Int} (hr : r < 9218868437227405312) (hm : Ieee.double.read m = .number false 4503599627370496 p) :
    Ieee.double.mul (Ieee.double.word s r) m = some (Ieee.double.nearest s (mag r) (-1074 + (sh r : Nat) + p + 52)) := by
  rw [← mul_word s hr hm]
  unfold Format.mul
  rw [read_word s hr, hm]
  simp only [Datum.product]
  rw [Nat.mul_comm, Int.add_comm, Bool.xor_comm]

/-- The word that a subnormal one times 2^52 is. -/
def nR (r : Nat) : Nat := if r < 4503599627370496 then (r.log2 + 1) * 4503599627370496 + (nM r - 4503599627370496) else r
theorem nR_mag {r : Nat} (h0 : r ≠ 0) : mag (nR r) = nM r := by
  unfold nR; split
  · exact (mag_of (nM_ge h0) (nM_lt h0) (by omega)).1
  · unfold nM; rw [if_neg (by assumption)]
def nD (r : Nat) : Int := if r < 4503599627370496 then -52 else 0
theorem nR_exp {r : Nat} (h0 : r ≠ 0) : ((nR r / 4503599627370496 : Nat) : Int) + nD r = nE r := by
  have h1 := nM_ge h0; have h2 := nM_lt h0
  unfold nR nE nD; split
  · have : ((r.log2 + 1) * 4503599627370496 + (nM r - 4503599627370496)) / 4503599627370496 = r.log2 + 1 := by omega
    rw [this]; omega
  · omega
theorem nR_range {r : Nat} (h0 : r ≠ 0) (h : r < 9218868437227405312) : 4503599627370496 ≤ nR r ∧ nR r < 9218868437227405312 := by
  have h1 := nM_ge h0; have h2 := nM_lt h0
  unfold nR; split
  · rename_i h; have := log2_sub h0 h; omega
  · omega

theorem read52 : Ieee.double.read 4841369599423283200 = .number false 4503599627370496 0 := by decide
theorem read1 : Ieee.double.read 4607182418800017408 = .number false 4503599627370496 (-52) := by decide
theorem readm53 : Ieee.double.read 4368491638549381120 = .number false 4503599627370496 (-105) := by decide

theorem mul_sub (s : Bool) {r : Nat} (h0 : r ≠ 0) (h : r < 4503599627370496) :
    Ieee.double.mul (Ieee.double.word s r) 4841369599423283200 = some (Ieee.double.word s (nR r)) := by
  rw [mul_word' s (by omega) read52]
  have e1 : mag r = r := by unfold mag; rw [if_pos h]
  have e2 : sh r = 0 := by unfold sh; omega
  have hl := log2_sub h0 h
  have h1 := nM_ge h0; have h2 := nM_lt h0
  rw [e1, e2]
  congr 1
  have e3 : nR r = (r.log2 + 1) * 4503599627370496 + (nM r - 4503599627370496) := by unfold nR; rw [if_pos h]
  rw [e3, ← nearest_norm s h1 h2 (by omega) (by omega)]
  have e4 : nM r = r * 2 ^ (52 - r.log2) := by unfold nM; rw [if_pos h]
  rw [e4, ← nearest_scale s r (-1074 + ((0 : Nat) : Int) + 0 + 52) (52 - r.log2)]
  congr 1
  omega

end Go.Proofs.Ytnppgeokbhecfaa
