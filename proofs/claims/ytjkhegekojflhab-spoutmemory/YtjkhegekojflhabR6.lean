/- The contract of the document's answer for Scale, whole. -/
import Derived.Test.YtjkhegekojflhabR5
namespace Go.Proofs.Ytjkhegekojflhab
open Ieee Go.RowKit

/-- The rounding step's numbers. -/
theorem round_numbers (M d : Nat) (hd1 : 1 ≤ d) (hd2 : d ≤ 54) (hM : M < 9007199254740992) :
    ∃ Q P R Hf : Nat, (M : Int) / 2 ^ d = (Q : Int) ∧ IntKind.u64.wrap ((Q : Int) * 2 ^ d) = (P : Int) ∧ IntKind.u64.wrap ((M : Int) - (P : Int)) = (R : Int) ∧ IntKind.u64.wrap (2 ^ (d - 1)) = (Hf : Int) ∧
      Q < 9007199254740992 ∧ R < 18446744073709551616 ∧ Hf < 18446744073709551616 ∧ rhe M d = Q + (if Hf < R ∨ (R = Hf ∧ Q % 2 = 1) then 1 else 0) := by
  have hq : M / 2 ^ d ≤ M := Nat.div_le_self _ _
  have hdm := Nat.div_add_mod M (2 ^ d)
  have hh : 2 ^ (d - 1) ≤ 2 ^ 53 := Nat.pow_le_pow_right (by omega) (by omega)
  have h2 : 2 ^ d = 2 * 2 ^ (d - 1) := by rw [Nat.mul_comm, ← Nat.pow_succ]; congr 1; omega
  have ec : (2 : Int) ^ d = ((2 ^ d : Nat) : Int) := by rw [Int.natCast_pow]; rfl
  have ec2 : (2 : Int) ^ (d - 1) = ((2 ^ (d - 1) : Nat) : Int) := by rw [Int.natCast_pow]; rfl
  refine ⟨M / 2 ^ d, M / 2 ^ d * 2 ^ d, M % 2 ^ d, 2 ^ (d - 1), ?_, ?_, ?_, ?_, by omega, ?_, by omega, ?_⟩
  · rw [ec, ← Int.natCast_ediv]
  · rw [ec, ← Int.natCast_mul, IntKind.wrap_u64]
    rw [Nat.mul_comm] at hdm; omega
  · rw [IntKind.wrap_u64]
    rw [Nat.mul_comm] at hdm; omega
  · rw [ec2, IntKind.wrap_u64]; omega
  · rw [Nat.mul_comm] at hdm; omega
  · unfold rhe
    rw [h2]
    congr 1
    by_cases c : 2 ^ (d - 1) < M % (2 * 2 ^ (d - 1)) ∨ M % (2 * 2 ^ (d - 1)) = 2 ^ (d - 1) ∧ M / (2 * 2 ^ (d - 1)) % 2 = 1
    · rw [if_pos c, if_pos (by omega)]
    · rw [if_neg c, if_neg (by omega)]

theorem nM_parts {x : Nat} (h : 4503599627370496 ≤ rung x) : ((eB x : Nat) : Int) = nE (rung x) ∧ ((fB x : Nat) : Int) + 4503599627370496 = ((nM (rung x) : Nat) : Int) := by
  obtain ⟨hp, hf⟩ := @rung_parts x
  constructor
  · unfold nE; rw [if_neg (by omega)]; omega
  · unfold nM mag; rw [if_neg (by omega), if_neg (by omega)]; omega

theorem rscale_3 {x : Nat} (n : Int) (hx : x < 18446744073709551616) (w : World) (h3 : classI x = 3) (hE : ((eB x : Nat) : Int) = nE (rung x)) (hM : ((fB x : Nat) : Int) + 4503599627370496 = ((nM (rung x) : Nat) : Int)) (hf : fB x < 4503599627370496) (E1 : -51 ≤ nE (rung x)) (E2 : nE (rung x) ≤ 2046) (M2 : nM (rung x) < 9007199254740992) :
    Calls Try.prog 62 #[.float .f64 x, .int .i64 n] w fun e w' => e = .returned (.float .f64 (scaleW (negB x) (nM (rung x)) (nE (rung x) + n))) ∧ w' = w := by
  by_cases c1 : 5000 < n
  · rw [sw_inf _ _ (by omega)]
    exact rs3_A n hx w h3 hE hM hf E1 E2 M2 c1 (by omega)
  have c1' : decide (5000 < n) = false := decide_eq_false c1
  by_cases c2 : n < -5000
  · rw [scale_far M2 (by omega)]
    exact rs3_B n hx w h3 hE hM hf E1 E2 M2 c1' c2 (by rw [decide_eq_false_iff_not]; omega) (by rw [decide_eq_false_iff_not]; omega) (by omega)
  have c2' : decide (n < -5000) = false := decide_eq_false c2
  by_cases t : 2047 ≤ nE (rung x) + n
  · rw [sw_inf _ _ t]
    exact rs3_C1 n hx w h3 hE hM hf E1 E2 M2 c1' c2' (by omega) (by omega) t
  have t' : decide (2047 ≤ nE (rung x) + n) = false := decide_eq_false t
  by_cases t2 : 1 ≤ nE (rung x) + n
  · rw [sw_mid _ _ t2 (by omega)]
    exact rs3_C2 n hx w h3 hE hM hf E1 E2 M2 c1' c2' (by omega) (by omega) t' t2 (by omega)
  have t2' : decide (1 ≤ nE (rung x) + n) = false := decide_eq_false t2
  by_cases t4 : 54 < 1 - (nE (rung x) + n)
  · rw [scale_far M2 (by omega)]
    exact rs3_C3 n hx w h3 hE hM hf E1 E2 M2 c1' c2' (by omega) (by omega) t' t2' (by omega) t4
  have t4' : decide (54 < 1 - (nE (rung x) + n)) = false := decide_eq_false t4
  obtain ⟨Q, P, R, Hf, hq, hp, hrr, hh, q1, q2, q3, hrhe⟩ := round_numbers (nM (rung x)) (1 - (nE (rung x) + n)).toNat (by omega) (by omega) M2
  rw [sw_low _ _ (by omega), hrhe]
  by_cases u : Hf < R
  · rw [if_pos (.inl u)]
    exact rs3_U1 n hx w h3 hE hM hf E1 E2 M2 c1' c2' (by omega) (by omega) t' t2' (by omega) t4' (by omega) Q P R Hf hq hp hrr hh q1 q2 q3 (by omega)
  by_cases u2 : R = Hf
  · subst u2
    by_cases u3 : Q % 2 = 1
    · rw [if_pos (.inr ⟨rfl, u3⟩)]
      exact rs3_U2 n hx w h3 hE hM hf E1 E2 M2 c1' c2' (by omega) (by omega) t' t2' (by omega) t4' (by omega) Q P R hq hp hrr hh q1 q3 (by rw [beq_iff_eq]; omega)
    · rw [if_neg (by omega), Nat.add_zero]
      exact rs3_U3 n hx w h3 hE hM hf E1 E2 M2 c1' c2' (by omega) (by omega) t' t2' (by omega) t4' (by omega) Q P R hq hp hrr hh q1 q3 (by rw [beq_eq_false_iff_ne]; omega)
  · rw [if_neg (by omega), Nat.add_zero]
    exact rs3_U4 n hx w h3 hE hM hf E1 E2 M2 c1' c2' (by omega) (by omega) t' t2' (by omega) t4' (by omega) Q P R Hf hq hp hrr hh q1 q2 q3 (show R < Hf by omega)

theorem rscale_2 {x : Nat} (n : Int) (hx : x < 18446744073709551616) (w : World) (h2 : classI x = 2) (hr : rung x = fB x) (h0 : fB x ≠ 0) (hf : fB x < 4503599627370496) (E1 : -51 ≤ nE (rung x)) (E2 : nE (rung x) ≤ 2046) (M2 : nM (rung x) < 9007199254740992) :
    Calls Try.prog 62 #[.float .f64 x, .int .i64 n] w fun e w' => e = .returned (.float .f64 (scaleW (negB x) (nM (rung x)) (nE (rung x) + n))) ∧ w' = w := by
  by_cases c1 : 5000 < n
  · rw [sw_inf _ _ (by omega)]
    exact rs2_A n hx w h2 hr h0 hf E1 E2 M2 c1 (by omega)
  have c1' : decide (5000 < n) = false := decide_eq_false c1
  by_cases c2 : n < -5000
  · rw [scale_far M2 (by omega)]
    exact rs2_B n hx w h2 hr h0 hf E1 E2 M2 c1' c2 (by rw [decide_eq_false_iff_not]; omega) (by rw [decide_eq_false_iff_not]; omega) (by omega)
  have c2' : decide (n < -5000) = false := decide_eq_false c2
  by_cases t : 2047 ≤ nE (rung x) + n
  · rw [sw_inf _ _ t]
    exact rs2_C1 n hx w h2 hr h0 hf E1 E2 M2 c1' c2' (by omega) (by omega) t
  have t' : decide (2047 ≤ nE (rung x) + n) = false := decide_eq_false t
  by_cases t2 : 1 ≤ nE (rung x) + n
  · rw [sw_mid _ _ t2 (by omega)]
    exact rs2_C2 n hx w h2 hr h0 hf E1 E2 M2 c1' c2' (by omega) (by omega) t' t2 (by omega)
  have t2' : decide (1 ≤ nE (rung x) + n) = false := decide_eq_false t2
  by_cases t4 : 54 < 1 - (nE (rung x) + n)
  · rw [scale_far M2 (by omega)]
    exact rs2_C3 n hx w h2 hr h0 hf E1 E2 M2 c1' c2' (by omega) (by omega) t' t2' (by omega) t4
  have t4' : decide (54 < 1 - (nE (rung x) + n)) = false := decide_eq_false t4
  obtain ⟨Q, P, R, Hf, hq, hp, hrr, hh, q1, q2, q3, hrhe⟩ := round_numbers (nM (rung x)) (1 - (nE (rung x) + n)).toNat (by omega) (by omega) M2
  rw [sw_low _ _ (by omega), hrhe]
  by_cases u : Hf < R
  · rw [if_pos (.inl u)]
    exact rs2_U1 n hx w h2 hr h0 hf E1 E2 M2 c1' c2' (by omega) (by omega) t' t2' (by omega) t4' (by omega) Q P R Hf hq hp hrr hh q1 q2 q3 (by omega)
  by_cases u2 : R = Hf
  · subst u2
    by_cases u3 : Q % 2 = 1
    · rw [if_pos (.inr ⟨rfl, u3⟩)]
      exact rs2_U2 n hx w h2 hr h0 hf E1 E2 M2 c1' c2' (by omega) (by omega) t' t2' (by omega) t4' (by omega) Q P R hq hp hrr hh q1 q3 (by rw [beq_iff_eq]; omega)
    · rw [if_neg (by omega), Nat.add_zero]
      exact rs2_U3 n hx w h2 hr h0 hf E1 E2 M2 c1' c2' (by omega) (by omega) t' t2' (by omega) t4' (by omega) Q P R hq hp hrr hh q1 q3 (by rw [beq_eq_false_iff_ne]; omega)
  · rw [if_neg (by omega), Nat.add_zero]
    exact rs2_U4 n hx w h2 hr h0 hf E1 E2 M2 c1' c2' (by omega) (by omega) t' t2' (by omega) t4' (by omega) Q P R Hf hq hp hrr hh q1 q2 q3 (show R < Hf by omega)

theorem rscale_walk {x : Nat} (n : Int) (hx : x < 18446744073709551616) (w : World) :
    Calls Try.prog 62 #[.float .f64 x, .int .i64 n] w fun e w' => e = .returned (.float .f64 (scaleR x n)) ∧ w' = w := by
  obtain ⟨hp, hf⟩ := @rung_parts x
  by_cases c3 : classI x = 3
  · have h := (class_three x).1 c3
    have e : scaleR x n = scaleW (negB x) (nM (rung x)) (nE (rung x) + n) := by
      unfold scaleR nanB
      rw [if_neg (by simp; omega), if_neg (by omega)]
    obtain ⟨hE, hM⟩ := nM_parts h.1
    have hr := nE_range (r := rung x) (by omega) h.2
    rw [e]
    exact rscale_3 n hx w c3 hE hM hf hr.1 hr.2 (nM_lt (by omega))
  · by_cases c2 : classI x = 2
    · have h := (class_two x).1 c2
      have e : scaleR x n = scaleW (negB x) (nM (rung x)) (nE (rung x) + n) := by
        unfold scaleR nanB
        rw [if_neg (by simp; omega), if_neg (by omega)]
      have hr := nE_range (r := rung x) (by omega) (by omega)
      rw [e]
      exact rscale_2 n hx w c2 (by omega) (by omega) hf hr.1 hr.2 (nM_lt (by omega))
    · rw [scale_stays c2 c3]
      exact rscale_same n hx (by simpa using c2) (by simpa using c3) w

end Go.Proofs.Ytjkhegekojflhab
