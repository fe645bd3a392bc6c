/- Contracts of the small functions that fbit and its statements are made of. -/
import Derived.Test.YtnppgeokbhecfaaChecked
import Derived.Test.YtnppgeokbhecfaaFp
import Derived.WalkKit
import Derived.ProofKit
namespace Go.Proofs.Ytnppgeokbhecfaa

theorem run_bits (x : Nat) (w : World) : (callFunc 37 #[.float .f64 x]).run Try.prog w = .ok (.value (.int .u64 x)) w := by
  rw [run_callFunc_extern (e := Extern.MathFloatBits.float64bits) Try.func37 (by kernel_rfl) (by kernel_rfl) (by kernel_rfl) (by kernel_rfl)]
  rfl

theorem run_frombits (x : Int) (w : World) : (callFunc 39 #[.int .u64 x]).run Try.prog w = .ok (.value (.float .f64 x.toNat)) w := by
  rw [run_callFunc_extern (e := Extern.MathFloatBits.float64frombits) Try.func39 (by kernel_rfl) (by kernel_rfl) (by kernel_rfl) (by kernel_rfl)]
  rfl

attribute [local go_sem] run_bits run_frombits

theorem ret_int {k : IntKind} {a b : Int} (h : a = b) : Ending.returned (.int k a) = .returned (.int k b) := by rw [h]
theorem ret_bool {a b : Bool} (h : a = b) : Ending.returned (.bool a) = .returned (.bool b) := by rw [h]
theorem ret_float {k : FloatKind} {a b : Nat} (h : a = b) : Ending.returned (.float k a) = .returned (.float k b) := by rw [h]

theorem isNaN_walk {x : Nat} (hx : x < 18446744073709551616) (w : World) :
    Calls Try.prog 40 #[.float .f64 x] w fun e w' => e = .returned (.bool (nanB x)) ∧ w' = w := by
  go_enter Try.func40, Try.ntmps40
  go_wp2
  all_goals (go_ret; exact ⟨ret_bool (order_self hx), rfl⟩)

def flagI (a b : Bool) : Int := if a = b then 0 else if b then -1 else 1
theorem flags_walk (a b : Bool) (w : World) :
    Calls Try.prog 45 #[.bool a, .bool b] w fun e w' => e = .returned (.int .i64 (flagI a b)) ∧ w' = w := by
  cases a <;> cases b <;>
  · go_enter Try.func45, Try.ntmps45
    go_wp2
    all_goals (go_ret; exact ⟨rfl, rfl⟩)

theorem signbit_walk {x : Nat} (hx : x < 18446744073709551616) (w : World) :
    Calls Try.prog 46 #[.float .f64 x] w fun e w' => e = .returned (.bool (negB x)) ∧ w' = w := by
  go_enter Try.func46, Try.ntmps46
  go_wp2
  all_goals (go_ret; exact ⟨ret_bool (by unfold negB RowKit.wrap64; rw [Bool.eq_iff_iff]; simp; omega), rfl⟩)

theorem canon_walk {x : Nat} (hx : x < 18446744073709551616) (w : World) :
    Calls Try.prog 32 #[.float .f64 x] w fun e w' => e = .returned (.float .f64 (canonW x)) ∧ w' = w := by
  cases h : nanB x
  all_goals
    go_enter Try.func32, Try.ntmps32
    go_wp2_with (go_at_call 40; refine (isNaN_walk hx _).mono ?_; rintro e w' ⟨rfl, rfl⟩)
    go_ret
    exact ⟨ret_float (by unfold canonW; rw [h]; rfl), rfl⟩

theorem order_walk {a b : Nat} (ha : a < 18446744073709551616) (hb : b < 18446744073709551616) (w : World) :
    Calls Try.prog 38 #[.float .f64 a, .float .f64 b] w fun e w' => e = .returned (.int .i64 (ordI a b)) ∧ w' = w := by
  cases h : FloatKind.f64.format.order a b with
  | none =>
    go_enter Try.func38, Try.ntmps38
    go_wp2_with fail
    refine (isNaN_walk ha _).mono ?_
    rintro e w' ⟨rfl, rfl⟩
    go_wp2_with fail
    refine (isNaN_walk hb _).mono ?_
    rintro e w' ⟨rfl, rfl⟩
    go_wp2_with fail
    refine (flags_walk _ _ _).mono ?_
    rintro e w' ⟨rfl, rfl⟩
    go_wp2_with fail
    go_ret
    exact ⟨ret_int (ord_none ha hb h).symm, rfl⟩
  | some o =>
    cases o with
    | lt =>
      go_enter Try.func38, Try.ntmps38
      go_wp2_with fail
      go_ret
      exact ⟨ret_int (ord_lt ha hb h).symm, rfl⟩
    | gt =>
      go_enter Try.func38, Try.ntmps38
      go_wp2_with fail
      go_ret
      exact ⟨ret_int (ord_gt ha hb h).symm, rfl⟩
    | eq =>
      go_enter Try.func38, Try.ntmps38
      go_wp2_with fail
      refine (signbit_walk ha _).mono ?_
      rintro e w' ⟨rfl, rfl⟩
      go_wp2_with fail
      refine (signbit_walk hb _).mono ?_
      rintro e w' ⟨rfl, rfl⟩
      go_wp2_with fail
      refine (flags_walk _ _ _).mono ?_
      rintro e w' ⟨rfl, rfl⟩
      go_wp2_with fail
      go_ret
      exact ⟨ret_int (by rw [ord_eq ha hb h]; unfold flagI; cases negB a <;> cases negB b <;> rfl), rfl⟩

theorem ordI_neg {a b : Nat} : ordI a b < 0 ↔ rank a < rank b := by unfold ordI; split <;> (try split) <;> omega
theorem ordI_pos {a b : Nat} : 0 < ordI a b ↔ rank b < rank a := by unfold ordI; split <;> (try split) <;> omega

theorem canon_lt {x : Nat} (hx : x < 18446744073709551616) : canonW x < 18446744073709551616 := by unfold canonW; split <;> omega

/-- Words of one rank are one word behind Canon. -/
theorem canon_of_rank {a b : Nat} (ha : a < 18446744073709551616) (hb : b < 18446744073709551616) (h : rank a = rank b) : canonW a = canonW b := by
  have ra := rung_of ha; have rb := rung_of hb
  have la := rung_lt a; have lb := rung_lt b
  unfold rank at h; unfold canonW
  cases na : nanB a <;> cases nb : nanB b <;> rw [na, nb] at h <;> (first | replace na := nan_t na | replace na := nan_f na) <;> (first | replace nb := nan_t nb | replace nb := nan_f nb) <;>
  cases sa : negB a <;> cases sb : negB b <;> (have ga := sa; have gb := sb; simp only [sa, sb, Bool.false_eq_true, if_false, if_true] at h ra rb ⊢) <;> (first | replace ga := neg_t ga | replace ga := neg_f ga) <;> (first | replace gb := neg_t gb | replace gb := neg_f gb) <;> omega

theorem least_walk {a b : Nat} (ha : a < 18446744073709551616) (hb : b < 18446744073709551616) (w : World) :
    Calls Try.prog 29 #[.float .f64 a, .float .f64 b] w fun e w' => e = .returned (.float .f64 (leastW a b)) ∧ w' = w := by
  by_cases h : ordI a b < 0
  · go_enter Try.func29, Try.ntmps29
    go_wp2_with fail
    refine (order_walk ha hb _).mono ?_
    rintro e w' ⟨rfl, rfl⟩
    go_wp2_with fail
    refine (canon_walk ha _).mono ?_
    rintro e w' ⟨rfl, rfl⟩
    go_wp2_with fail
    go_ret
    have := ordI_neg.1 h
    exact ⟨ret_float (by unfold leastW; rw [if_pos (by omega)]), rfl⟩
  · go_enter Try.func29, Try.ntmps29
    go_wp2_with fail
    refine (order_walk ha hb _).mono ?_
    rintro e w' ⟨rfl, rfl⟩
    go_wp2_with fail
    refine (canon_walk hb _).mono ?_
    rintro e w' ⟨rfl, rfl⟩
    go_wp2_with fail
    go_ret
    have h' : ¬ rank a < rank b := fun k => by have := ordI_neg.2 k; omega
    refine ⟨ret_float ?_, rfl⟩
    unfold leastW
    split
    · exact (canon_of_rank ha hb (by omega)).symm
    · rfl

theorem most_walk {a b : Nat} (ha : a < 18446744073709551616) (hb : b < 18446744073709551616) (w : World) :
    Calls Try.prog 31 #[.float .f64 a, .float .f64 b] w fun e w' => e = .returned (.float .f64 (mostW a b)) ∧ w' = w := by
  by_cases h : 0 < ordI a b
  · go_enter Try.func31, Try.ntmps31
    go_wp2_with fail
    refine (order_walk ha hb _).mono ?_
    rintro e w' ⟨rfl, rfl⟩
    go_wp2_with fail
    refine (canon_walk ha _).mono ?_
    rintro e w' ⟨rfl, rfl⟩
    go_wp2_with fail
    go_ret
    have := ordI_pos.1 h
    exact ⟨ret_float (by unfold mostW; rw [if_pos (by omega)]), rfl⟩
  · go_enter Try.func31, Try.ntmps31
    go_wp2_with fail
    refine (order_walk ha hb _).mono ?_
    rintro e w' ⟨rfl, rfl⟩
    go_wp2_with fail
    refine (canon_walk hb _).mono ?_
    rintro e w' ⟨rfl, rfl⟩
    go_wp2_with fail
    go_ret
    have h' : ¬ rank b < rank a := fun k => by have := ordI_pos.2 k; omega
    refine ⟨ret_float ?_, rfl⟩
    unfold mostW
    split
    · exact (canon_of_rank ha hb (by omega)).symm
    · rfl

theorem abs_bits {x : Nat} (hx : x < 18446744073709551616) : (bits .andNot .u64 (x : Int) 9223372036854775808).toNat = rung x := by
  have h := u64_andNot_nat x 9223372036854775808 hx (by omega)
  rw [show ((9223372036854775808 : Nat) : Int) = 9223372036854775808 from rfl] at h
  rw [h, Int.toNat_natCast]
  exact Nat.and_two_pow_sub_one_eq_mod x 63

/-- The class of a word: 5 a NaN, 4 an infinity, 3 normal, 2 subnormal, 1 a nought. -/
def classI (x : Nat) : Int := if nanB x then 5 else if 9218868437227405312 ≤ rung x then 4 else if 4503599627370496 ≤ rung x then 3 else if 0 < rung x then 2 else 1

theorem key_rung (x : Nat) : key (rung x) = rung x := by
  have := rung_lt x
  have h : rung (rung x) = rung x := by unfold rung; omega
  unfold key
  rw [h]
  have : negB (rung x) = false := by unfold negB; simp; omega
  rw [this]; rfl
theorem nan_rung (x : Nat) : nanB (rung x) = nanB x := by
  have h : rung (rung x) = rung x := by unfold rung; omega
  unfold nanB; rw [h]
theorem order_rung {x c : Nat} (nx : nanB x = false) (hc : c ≤ 9218868437227405312) :
    Ieee.double.order (rung x) c = some (cmpI (rung x) c) := by
  have := rung_lt x
  have hr : rung c = c := by unfold rung; omega
  have nc : nanB c = false := by unfold nanB; simp; omega
  have kc : key c = c := by have := key_rung c; rw [hr] at this; exact this
  rw [order_key (by omega) (by omega) (by rw [nan_rung]; exact nx) nc, key_rung, kc]

end Go.Proofs.Ytnppgeokbhecfaa
