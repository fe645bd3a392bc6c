/- Contracts of the document's answer for Whole and Floor. -/
import Derived.Test.YtnppgeokbhecfaaR1
import Derived.Test.YtnppgeokbhecfaaW2
import Derived.Test.YtnppgeokbhecfaaFi
namespace Go.Proofs.Ytnppgeokbhecfaa
open Ieee Go.RowKit

theorem mag_parts {x : Nat} (h : 1 ≤ eB x) : mag (rung x) = fB x + 4503599627370496 ∧ sh (rung x) = eB x - 1 := by
  obtain ⟨hp, hf⟩ := @rung_parts x
  unfold mag sh
  rw [hp]
  constructor
  · rw [if_neg (by omega)]; omega
  · omega

theorem whole_low {x : Nat} (hn : nanB x = false) (h : eB x < 1023) : wholeI x = 0 := by
  obtain ⟨hp, hf⟩ := @rung_parts x
  have hw : wn (rung x) = 0 := by
    have hs : sh (rung x) ≤ 1021 := by unfold sh; omega
    have hm := mag_lt (rung x)
    unfold wn
    rw [if_neg (by omega)]
    apply Nat.div_eq_of_lt
    have : 2 ^ 53 ≤ 2 ^ (1074 - sh (rung x)) := Nat.pow_le_pow_right (by omega) (by omega)
    omega
  unfold wholeI
  rw [hn, hw, if_neg (by simp), if_neg (by omega)]
  split <;> rfl

theorem whole_mid {x : Nat} (l1 : 1075 ≤ eB x) (l2 : eB x ≤ 1085) : IntKind.u64.wrap (((fB x : Int) + 4503599627370496) * 2 ^ (eB x - 1075)) = (wn (rung x) : Int) ∧ wn (rung x) < 9223372036854775808 := by
  obtain ⟨hm, hsh⟩ := mag_parts (x := x) (by omega)
  obtain ⟨hp, hf⟩ := @rung_parts x
  have hl := wn_lt (r := rung x) (by omega)
  have hw : wn (rung x) = (fB x + 4503599627370496) * 2 ^ (eB x - 1075) := by
    unfold wn; rw [hm, hsh, if_pos (by omega), show eB x - 1 - 1074 = eB x - 1075 by omega]
  refine ⟨?_, hl⟩
  have e : (((fB x + 4503599627370496) * 2 ^ (eB x - 1075) : Nat) : Int) = ((fB x : Int) + 4503599627370496) * 2 ^ (eB x - 1075) := by
    rw [Int.natCast_mul, Int.natCast_add, Int.natCast_pow]; rfl
  rw [← e, ← hw, IntKind.wrap_u64]
  omega
theorem whole_lo {x : Nat} (l1 : 1023 ≤ eB x) (l2 : eB x ≤ 1074) : ((fB x : Int) + 4503599627370496) / 2 ^ (1075 - eB x) = (wn (rung x) : Int) ∧ wn (rung x) < 9223372036854775808 := by
  obtain ⟨hm, hsh⟩ := mag_parts (x := x) (by omega)
  obtain ⟨hp, hf⟩ := @rung_parts x
  have hl := wn_lt (r := rung x) (by omega)
  have hw : wn (rung x) = (fB x + 4503599627370496) / 2 ^ (1075 - eB x) := by
    unfold wn; rw [hm, hsh, if_neg (by omega), show 1074 - (eB x - 1) = 1075 - eB x by omega]
  refine ⟨?_, hl⟩
  have e : (((fB x + 4503599627370496) / 2 ^ (1075 - eB x) : Nat) : Int) = ((fB x : Int) + 4503599627370496) / 2 ^ (1075 - eB x) := by
    rw [Int.natCast_ediv, Int.natCast_add, Int.natCast_pow]; rfl
  rw [← e, ← hw]

theorem rw_hi_f {x : Nat} (hx : x < 18446744073709551616) (w : World) (hc : (classI x == 5) = false) (g1 : decide ((eB x : Int) < 1023) = false) (c2 : 1086 ≤ (eB x : Int)) (hs : decide (9223372036854775808 ≤ (x : Int)) = false) :
    Calls Try.prog 41 #[.float .f64 x] w fun e w' => e = .returned (.int .i64 (9223372036854775807)) ∧ w' = w := by
  go_enter Try.func41, Try.ntmps41
  go_wp2_with fail
  refine (parts_walk hx _).mono ?_
  rintro e w' ⟨rfl, rfl⟩
  go_wp2_with fail
  refine (bits_walk x _).mono ?_
  rintro e w' ⟨rfl, rfl⟩
  go_wp2_with fail
  refine (rclass_walk hx _).mono ?_
  rintro e w' ⟨rfl, rfl⟩
  go_wp2_with fail
  go_ret
  exact ⟨rfl, rfl⟩

theorem rw_hi_t {x : Nat} (hx : x < 18446744073709551616) (w : World) (hc : (classI x == 5) = false) (g1 : decide ((eB x : Int) < 1023) = false) (c2 : 1086 ≤ (eB x : Int)) (hs : 9223372036854775808 ≤ (x : Int)) :
    Calls Try.prog 41 #[.float .f64 x] w fun e w' => e = .returned (.int .i64 (-9223372036854775808)) ∧ w' = w := by
  go_enter Try.func41, Try.ntmps41
  go_wp2_with fail
  refine (parts_walk hx _).mono ?_
  rintro e w' ⟨rfl, rfl⟩
  go_wp2_with fail
  refine (bits_walk x _).mono ?_
  rintro e w' ⟨rfl, rfl⟩
  go_wp2_with fail
  refine (rclass_walk hx _).mono ?_
  rintro e w' ⟨rfl, rfl⟩
  go_wp2_with fail
  go_ret
  exact ⟨rfl, rfl⟩

theorem rw_mid_f {x : Nat} (hx : x < 18446744073709551616) (w : World) (hc : (classI x == 5) = false) (g1 : decide ((eB x : Int) < 1023) = false) (hf : fB x < 4503599627370496) (c2 : decide (1086 ≤ (eB x : Int)) = false) (c3 : decide (1075 ≤ (eB x : Int)) = true) (l1 : 1075 ≤ eB x) (l2 : eB x ≤ 1085) (hs : decide (9223372036854775808 ≤ (x : Int)) = false) :
    Calls Try.prog 41 #[.float .f64 x] w fun e w' => e = .returned (.int .i64 (wn (rung x))) ∧ w' = w := by
  go_enter Try.func41, Try.ntmps41
  go_wp2_with fail
  refine (parts_walk hx _).mono ?_
  rintro e w' ⟨rfl, rfl⟩
  go_wp2_with fail
  refine (bits_walk x _).mono ?_
  rintro e w' ⟨rfl, rfl⟩
  go_wp2_with fail
  refine (rclass_walk hx _).mono ?_
  rintro e w' ⟨rfl, rfl⟩
  go_wp2_with fail
  go_ret
  exact ⟨ret_int (by obtain ⟨e, k⟩ := whole_mid l1 l2; rw [e]; unfold wrap64; omega), rfl⟩

theorem rw_mid_t {x : Nat} (hx : x < 18446744073709551616) (w : World) (hc : (classI x == 5) = false) (g1 : decide ((eB x : Int) < 1023) = false) (hf : fB x < 4503599627370496) (c2 : decide (1086 ≤ (eB x : Int)) = false) (c3 : decide (1075 ≤ (eB x : Int)) = true) (l1 : 1075 ≤ eB x) (l2 : eB x ≤ 1085) (hs : 9223372036854775808 ≤ (x : Int)) :
    Calls Try.prog 41 #[.float .f64 x] w fun e w' => e = .returned (.int .i64 (-(wn (rung x) : Int))) ∧ w' = w := by
  go_enter Try.func41, Try.ntmps41
  go_wp2_with fail
  refine (parts_walk hx _).mono ?_
  rintro e w' ⟨rfl, rfl⟩
  go_wp2_with fail
  refine (bits_walk x _).mono ?_
  rintro e w' ⟨rfl, rfl⟩
  go_wp2_with fail
  refine (rclass_walk hx _).mono ?_
  rintro e w' ⟨rfl, rfl⟩
  go_wp2_with fail
  go_ret
  exact ⟨ret_int (by obtain ⟨e, k⟩ := whole_mid l1 l2; rw [e]; unfold wrap64; omega), rfl⟩

theorem rw_lo_f {x : Nat} (hx : x < 18446744073709551616) (w : World) (hc : (classI x == 5) = false) (g1 : decide ((eB x : Int) < 1023) = false) (hf : fB x < 4503599627370496) (c2 : decide (1086 ≤ (eB x : Int)) = false) (c3 : decide (1075 ≤ (eB x : Int)) = false) (l1 : 1023 ≤ eB x) (l2 : eB x ≤ 1074) (hs : decide (9223372036854775808 ≤ (x : Int)) = false) :
    Calls Try.prog 41 #[.float .f64 x] w fun e w' => e = .returned (.int .i64 (wn (rung x))) ∧ w' = w := by
  go_enter Try.func41, Try.ntmps41
  go_wp2_with fail
  refine (parts_walk hx _).mono ?_
  rintro e w' ⟨rfl, rfl⟩
  go_wp2_with fail
  refine (bits_walk x _).mono ?_
  rintro e w' ⟨rfl, rfl⟩
  go_wp2_with fail
  refine (rclass_walk hx _).mono ?_
  rintro e w' ⟨rfl, rfl⟩
  go_wp2_with fail
  go_ret
  exact ⟨ret_int (by obtain ⟨e, k⟩ := whole_lo l1 l2; rw [e]; unfold wrap64; omega), rfl⟩

theorem rw_lo_t {x : Nat} (hx : x < 18446744073709551616) (w : World) (hc : (classI x == 5) = false) (g1 : decide ((eB x : Int) < 1023) = false) (hf : fB x < 4503599627370496) (c2 : decide (1086 ≤ (eB x : Int)) = false) (c3 : decide (1075 ≤ (eB x : Int)) = false) (l1 : 1023 ≤ eB x) (l2 : eB x ≤ 1074) (hs : 9223372036854775808 ≤ (x : Int)) :
    Calls Try.prog 41 #[.float .f64 x] w fun e w' => e = .returned (.int .i64 (-(wn (rung x) : Int))) ∧ w' = w := by
  go_enter Try.func41, Try.ntmps41
  go_wp2_with fail
  refine (parts_walk hx _).mono ?_
  rintro e w' ⟨rfl, rfl⟩
  go_wp2_with fail
  refine (bits_walk x _).mono ?_
  rintro e w' ⟨rfl, rfl⟩
  go_wp2_with fail
  refine (rclass_walk hx _).mono ?_
  rintro e w' ⟨rfl, rfl⟩
  go_wp2_with fail
  go_ret
  exact ⟨ret_int (by obtain ⟨e, k⟩ := whole_lo l1 l2; rw [e]; unfold wrap64; omega), rfl⟩

theorem rwhole_walk {x : Nat} (hx : x < 18446744073709551616) (w : World) :
    Calls Try.prog 41 #[.float .f64 x] w fun e w' => e = .returned (.int .i64 (wholeI x)) ∧ w' = w := by
  cases hn : nanB x
  · have hc := class_not_nan hn
    have hc' : (classI x == 5) = false := by rw [beq_eq_false_iff_ne]; exact hc
    by_cases c1 : eB x < 1023
    · have hw := whole_low hn c1
      have HW : Hid (wholeI x = 0) := hw
      have c1' : (eB x : Int) < 1023 := by omega
      clear hw c1 hc
      go_enter Try.func41, Try.ntmps41
      go_wp2_with fail
      refine (parts_walk hx _).mono ?_
      rintro e w' ⟨rfl, rfl⟩
      go_wp2_with fail
      refine (bits_walk x _).mono ?_
      rintro e w' ⟨rfl, rfl⟩
      go_wp2_with fail
      refine (rclass_walk hx _).mono ?_
      rintro e w' ⟨rfl, rfl⟩
      go_wp2_with fail
      go_ret
      exact ⟨ret_int (Eq.symm HW), rfl⟩
    · have HW : wholeI x = if 1086 ≤ eB x then (if negB x then -9223372036854775808 else 9223372036854775807) else if negB x then -(wn (rung x) : Int) else wn (rung x) := by
        obtain ⟨hp, hf⟩ := @rung_parts x
        unfold wholeI
        rw [hn, if_neg (by simp)]
        by_cases c : 1086 ≤ eB x
        · rw [if_pos c, if_pos (by omega)]
        · rw [if_neg c, if_neg (by omega)]
      have g1 : decide ((eB x : Int) < 1023) = false := by rw [decide_eq_false_iff_not]; omega
      have hf : fB x < 4503599627370496 := (@rung_parts x).2
      rw [HW]
      by_cases c2 : 1086 ≤ eB x
      · rw [if_pos c2]
        cases sg : negB x
        · exact rw_hi_f hx w hc' g1 (by omega) (by have := neg_f sg; rw [decide_eq_false_iff_not]; omega)
        · exact rw_hi_t hx w hc' g1 (by omega) (by have := neg_t sg; omega)
      · rw [if_neg c2]
        have c2' : decide (1086 ≤ (eB x : Int)) = false := by rw [decide_eq_false_iff_not]; omega
        by_cases c3 : 1075 ≤ eB x
        · have c3' : decide (1075 ≤ (eB x : Int)) = true := by rw [decide_eq_true_eq]; omega
          cases sg : negB x
          · exact rw_mid_f hx w hc' g1 hf c2' c3' c3 (by omega) (by have := neg_f sg; rw [decide_eq_false_iff_not]; omega)
          · exact rw_mid_t hx w hc' g1 hf c2' c3' c3 (by omega) (by have := neg_t sg; omega)
        · have c3' : decide (1075 ≤ (eB x : Int)) = false := by rw [decide_eq_false_iff_not]; omega
          cases sg : negB x
          · exact rw_lo_f hx w hc' g1 hf c2' c3' (by omega) (by omega) (by have := neg_f sg; rw [decide_eq_false_iff_not]; omega)
          · exact rw_lo_t hx w hc' g1 hf c2' c3' (by omega) (by omega) (by have := neg_t sg; omega)
  · have hc := (class_nan x).2 hn
    go_enter Try.func41, Try.ntmps41
    go_wp2_with fail
    refine (parts_walk hx _).mono ?_
    rintro e w' ⟨rfl, rfl⟩
    go_wp2_with fail
    refine (bits_walk x _).mono ?_
    rintro e w' ⟨rfl, rfl⟩
    go_wp2_with fail
    refine (rclass_walk hx _).mono ?_
    rintro e w' ⟨rfl, rfl⟩
    go_wp2_with fail
    go_ret
    exact ⟨ret_int (by unfold wholeI; rw [hn]; rfl), rfl⟩

end Go.Proofs.Ytnppgeokbhecfaa
