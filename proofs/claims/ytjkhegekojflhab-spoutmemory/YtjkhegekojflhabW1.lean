/- Contracts of the small functions that fbit and its statements are made of. -/
import Derived.Test.YtjkhegekojflhabChecked
import Derived.Test.YtjkhegekojflhabFp
import Derived.WalkKit
import Derived.ProofKit
namespace Go.Proofs.Ytjkhegekojflhab

theorem run_bits (x : Nat) (w : World) : (callFunc 39 #[.float .f64 x]).run Try.prog w = .ok (.value (.int .u64 x)) w := by
  rw [run_callFunc_extern (e := Extern.MathFloatBits.float64bits) Try.func39 (by kernel_rfl) (by kernel_rfl) (by kernel_rfl) (by kernel_rfl)]
  rfl

theorem run_frombits (x : Int) (w : World) : (callFunc 52 #[.int .u64 x]).run Try.prog w = .ok (.value (.float .f64 x.toNat)) w := by
  rw [run_callFunc_extern (e := Extern.MathFloatBits.float64frombits) Try.func52 (by kernel_rfl) (by kernel_rfl) (by kernel_rfl) (by kernel_rfl)]
  rfl

attribute [local go_sem] run_bits run_frombits

theorem ret_int {k : IntKind} {a b : Int} (h : a = b) : Ending.returned (.int k a) = .returned (.int k b) := by rw [h]
theorem ret_bool {a b : Bool} (h : a = b) : Ending.returned (.bool a) = .returned (.bool b) := by rw [h]
theorem ret_float {k : FloatKind} {a b : Nat} (h : a = b) : Ending.returned (.float k a) = .returned (.float k b) := by rw [h]

theorem isNaN_walk {x : Nat} (hx : x < 18446744073709551616) (w : World) :
    Calls Try.prog 51 #[.float .f64 x] w fun e w' => e = .returned (.bool (nanB x)) ∧ w' = w := by
  go_enter Try.func51, Try.ntmps51
  go_wp2
  all_goals (go_ret; exact ⟨ret_bool (order_self hx), rfl⟩)

theorem canon_walk {x : Nat} (hx : x < 18446744073709551616) (w : World) :
    Calls Try.prog 47 #[.float .f64 x] w fun e w' => e = .returned (.float .f64 (canonW x)) ∧ w' = w := by
  cases h : nanB x
  all_goals
    go_enter Try.func47, Try.ntmps47
    go_wp2_with (go_at_call 51; refine (isNaN_walk hx _).mono ?_; rintro e w' ⟨rfl, rfl⟩)
    go_ret
    exact ⟨ret_float (by unfold canonW; rw [h]; rfl), rfl⟩

theorem ordI_neg {a b : Nat} : ordI a b < 0 ↔ rank a < rank b := by unfold ordI; split <;> (try split) <;> omega
theorem ordI_pos {a b : Nat} : 0 < ordI a b ↔ rank b < rank a := by unfold ordI; split <;> (try split) <;> omega

theorem canon_lt {x : Nat} (hx : x < 18446744073709551616) : canonW x < 18446744073709551616 := by unfold canonW; split <;> omega

/-- Words of one rank are one word behind Canon. -/
theorem canon_of_rank {a b : Nat} (ha : a < 18446744073709551616) (hb : b < 18446744073709551616) (h : rank a = rank b) : canonW a = canonW b := by
  have ra := rung_of ha; have rb := rung_of hb
  have la := rung_lt a; have lb := rung_lt b
  unfold rank at h; unfold canonW
  cases na : nanB a <;> cases nb : nanB b <;> rw [na, nb] at h <;> (first | replace na := nan_t na | replace na := nan_f na) <;> (first | replace nb := nan_t nb | replace nb := nan_f nb) <;>
  cases sa : negB a <;> cases sb : negB b <;> (have ga := sa; have gb := sb; simp only [sa, sb, Bool.false_eq_true, if_false, if_true] at h ra rb ⊢) <;> (first | replace ga := neg_t ga | replace ga := neg_f ga) <;> (first | replace gb := neg_t gb | replace gb := neg_f gb) <;> omega

theorem of_walk (n : Int) (w : World) :
    Calls Try.prog 70 #[.int .i64 n] w fun e w' => e = .returned (.float .f64 (FloatKind.f64.nearest n)) ∧ w' = w := by
  go_enter Try.func70, Try.ntmps70
  go_wp2
  go_ret
  exact ⟨rfl, rfl⟩

theorem abs_bits {x : Nat} (hx : x < 18446744073709551616) : (bits .andNot .u64 (x : Int) 9223372036854775808).toNat = rung x := by
  have h := u64_andNot_nat x 9223372036854775808 hx (by omega)
  rw [show ((9223372036854775808 : Nat) : Int) = 9223372036854775808 from rfl] at h
  rw [h, Int.toNat_natCast]
  exact Nat.and_two_pow_sub_one_eq_mod x 63

theorem abs_walk {x : Nat} (hx : x < 18446744073709551616) (w : World) :
    Calls Try.prog 67 #[.float .f64 x] w fun e w' => e = .returned (.float .f64 (rung x)) ∧ w' = w := by
  go_enter Try.func67, Try.ntmps67
  go_wp2
  go_ret
  exact ⟨ret_float (abs_bits hx), rfl⟩

/-- The class of a word: 5 a NaN, 4 an infinity, 3 normal, 2 subnormal, 1 a nought. -/
def classI (x : Nat) : Int := if nanB x then 5 else if 9218868437227405312 ≤ rung x then 4 else if 4503599627370496 ≤ rung x then 3 else if 0 < rung x then 2 else 1

theorem key_rung (x : Nat) : key (rung x) = rung x := by
  have := rung_lt x
  have h : rung (rung x) = rung x := by unfold rung; omega
  unfold key
  rw [h]
  have : negB (rung x) = false := by unfold negB; simp; omega
  rw [this]; rfl
theorem nan_rung (x : Nat) : nanB (rung x) = nanB x := by
  have h : rung (rung x) = rung x := by unfold rung; omega
  unfold nanB; rw [h]
theorem order_rung {x c : Nat} (nx : nanB x = false) (hc : c ≤ 9218868437227405312) :
    Ieee.double.order (rung x) c = some (cmpI (rung x) c) := by
  have := rung_lt x
  have hr : rung c = c := by unfold rung; omega
  have nc : nanB c = false := by unfold nanB; simp; omega
  have kc : key c = c := by have := key_rung c; rw [hr] at this; exact this
  rw [order_key (by omega) (by omega) (by rw [nan_rung]; exact nx) nc, key_rung, kc]

theorem class_walk {x : Nat} (hx : x < 18446744073709551616) (w : World) :
    Calls Try.prog 53 #[.float .f64 x] w fun e w' => e = .returned (.int .i64 (classI x)) ∧ w' = w := by
  cases hn : nanB x
  · have h1 : FloatKind.f64.format.order (rung x) 9218868437227405311 = some (cmpI (rung x) (9218868437227405311 : Nat)) := order_rung (c := 9218868437227405311) hn (by omega)
    have h2 : FloatKind.f64.format.order (rung x) 4503599627370496 = some (cmpI (rung x) (4503599627370496 : Nat)) := order_rung (c := 4503599627370496) hn (by omega)
    have h3 : FloatKind.f64.format.order (rung x) 0 = some (cmpI (rung x) (0 : Nat)) := order_rung (c := 0) hn (by omega)
    have hr := nan_f hn
    by_cases c1 : 9218868437227405312 ≤ rung x
    · rw [show cmpI (rung x) (9218868437227405311 : Nat) = .gt by unfold cmpI; rw [if_neg (by omega), if_neg (by omega)]] at h1
      clear h2 h3
      go_enter Try.func53, Try.ntmps53
      go_wp2_with fail
      refine (abs_walk hx _).mono ?_
      rintro e w' ⟨rfl, rfl⟩
      go_wp2_with fail
      refine (isNaN_walk hx _).mono ?_
      rintro e w' ⟨rfl, rfl⟩
      go_wp2_with fail
      go_ret
      exact ⟨ret_int (by unfold classI; rw [hn]; simp only [Bool.false_eq_true, if_false]; (repeat' split) <;> omega), rfl⟩
    have h1' : FloatKind.f64.format.order (rung x) 9218868437227405311 = some .lt ∨ FloatKind.f64.format.order (rung x) 9218868437227405311 = some .eq := by
      rw [h1]; unfold cmpI
      by_cases c : (rung x : Int) < (9218868437227405311 : Nat)
      · rw [if_pos c]; exact .inl rfl
      · rw [if_neg c, if_pos (by omega)]; exact .inr rfl
    clear h1
    by_cases c2 : 4503599627370496 ≤ rung x
    · have h2' : FloatKind.f64.format.order (rung x) 4503599627370496 = some .gt ∨ FloatKind.f64.format.order (rung x) 4503599627370496 = some .eq := by
        rw [h2]; unfold cmpI
        rw [if_neg (by omega)]
        by_cases c : (rung x : Int) = (4503599627370496 : Nat)
        · rw [if_pos c]; exact .inr rfl
        · rw [if_neg c]; exact .inl rfl
      clear h2 h3
      rcases h1' with h1 | h1 <;> rcases h2' with h2 | h2
      all_goals
        go_enter Try.func53, Try.ntmps53
        go_wp2_with fail
        refine (abs_walk hx _).mono ?_
        rintro e w' ⟨rfl, rfl⟩
        go_wp2_with fail
        refine (isNaN_walk hx _).mono ?_
        rintro e w' ⟨rfl, rfl⟩
        go_wp2_with fail
        go_ret
        exact ⟨ret_int (by unfold classI; rw [hn]; simp only [Bool.false_eq_true, if_false]; (repeat' split) <;> omega), rfl⟩
    · rw [show cmpI (rung x) (4503599627370496 : Nat) = .lt by unfold cmpI; rw [if_pos (by omega)]] at h2
      by_cases c3 : 0 < rung x
      · rw [show cmpI (rung x) (0 : Nat) = .gt by unfold cmpI; rw [if_neg (by omega), if_neg (by omega)]] at h3
        rcases h1' with h1 | h1
        all_goals
          go_enter Try.func53, Try.ntmps53
          go_wp2_with fail
          refine (abs_walk hx _).mono ?_
          rintro e w' ⟨rfl, rfl⟩
          go_wp2_with fail
          refine (isNaN_walk hx _).mono ?_
          rintro e w' ⟨rfl, rfl⟩
          go_wp2_with fail
          go_ret
          exact ⟨ret_int (by unfold classI; rw [hn]; simp only [Bool.false_eq_true, if_false]; (repeat' split) <;> omega), rfl⟩
      · rw [show cmpI (rung x) (0 : Nat) = .eq by unfold cmpI; rw [if_neg (by omega), if_pos (by omega)]] at h3
        rcases h1' with h1 | h1
        all_goals
          go_enter Try.func53, Try.ntmps53
          go_wp2_with fail
          refine (abs_walk hx _).mono ?_
          rintro e w' ⟨rfl, rfl⟩
          go_wp2_with fail
          refine (isNaN_walk hx _).mono ?_
          rintro e w' ⟨rfl, rfl⟩
          go_wp2_with fail
          go_ret
          exact ⟨ret_int (by unfold classI; rw [hn]; simp only [Bool.false_eq_true, if_false]; (repeat' split) <;> omega), rfl⟩

  · go_enter Try.func53, Try.ntmps53
    go_wp2_with fail
    refine (abs_walk hx _).mono ?_
    rintro e w' ⟨rfl, rfl⟩
    go_wp2_with fail
    refine (isNaN_walk hx _).mono ?_
    rintro e w' ⟨rfl, rfl⟩
    go_wp2_with fail
    go_ret
    exact ⟨ret_int (by unfold classI; rw [hn]; rfl), rfl⟩

end Go.Proofs.Ytjkhegekojflhab
