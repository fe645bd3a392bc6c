/- The contract of the document's answer for Floor. -/
import Derived.Test.YtjkhegekojflhabR2
import Derived.Test.YtjkhegekojflhabFj
namespace Go.Proofs.Ytjkhegekojflhab
open Ieee Go.RowKit

theorem class_one (x : Nat) : classI x = 1 ↔ rung x = 0 := by
  unfold classI nanB
  simp only [decide_eq_true_eq]
  (repeat' split) <;> omega

/-- Noughts, infinities, NaNs and floats from 2^52 on are their own floors, through Canon. -/
theorem floor_same {x : Nat} (hx : x < 18446744073709551616) (h : rung x = 0 ∨ 1075 ≤ eB x) : floorW x = canonW x := by
  obtain ⟨hp, hf⟩ := @rung_parts x
  cases hn : nanB x
  · have hr := nan_f hn
    have hc : canonW x = x := by unfold canonW; rw [hn]; rfl
    rw [hc]
    by_cases hi : rung x = 9218868437227405312
    · unfold floorW
      rw [hn, read_inf hx hi]
      simp only [Bool.false_eq_true, if_false, Datum.integral, Format.write, ir]
      rw [← hi]; exact word_self hx
    · rcases h with h | h
      · rw [floor_fk hx (by omega), h]
        have v0 : V 0 = 0 := by decide
        have hk : fk (negB x) 0 = 0 := by unfold fk; rw [wn_V, v0, Nat.zero_div, Nat.zero_mod]; simp
        rw [hk, nearest_zero, ← h]; exact word_self hx
      · exact floor_big hx (by omega) (by omega)
  · unfold floorW canonW; rw [hn]; rfl

theorem rfloor_same {x : Nat} (hx : x < 18446744073709551616) (h : rung x = 0 ∨ 1075 ≤ eB x) (w : World) :
    Calls Try.prog 61 #[.float .f64 x] w fun e w' => e = .returned (.float .f64 (canonW x)) ∧ w' = w := by
  by_cases z : rung x = 0
  · have hc := (class_one x).2 z
    clear h z
    go_enter Try.func61, Try.ntmps61
    go_wp2_with fail
    refine (partsR_walk hx _).mono ?_
    rintro e w' ⟨rfl, rfl⟩
    go_wp2_with fail
    refine (rclass_walk hx _).mono ?_
    rintro e w' ⟨rfl, rfl⟩
    go_wp2_with fail
    refine (rcanon_walk hx _).mono ?_
    rintro e w' ⟨rfl, rfl⟩
    go_wp2_with fail
    go_ret
    exact ⟨rfl, rfl⟩
  · have hc : (classI x == 1) = false := by rw [beq_eq_false_iff_ne]; exact fun k => z ((class_one x).1 k)
    have he : (1075 : Int) ≤ (eB x : Int) := by omega
    clear h z
    go_enter Try.func61, Try.ntmps61
    go_wp2_with fail
    refine (partsR_walk hx _).mono ?_
    rintro e w' ⟨rfl, rfl⟩
    go_wp2_with fail
    refine (rclass_walk hx _).mono ?_
    rintro e w' ⟨rfl, rfl⟩
    go_wp2_with fail
    refine (rcanon_walk hx _).mono ?_
    rintro e w' ⟨rfl, rfl⟩
    go_wp2_with fail
    go_ret
    exact ⟨rfl, rfl⟩

theorem rfloor_stay {x : Nat} (hx : x < 18446744073709551616) (hc : (classI x == 1) = false) (he : decide ((1075 : Int) ≤ (eB x : Int)) = false) (ho : (FloatKind.f64.format.order (ofW (wholeI x)) x == some .gt) = false) (w : World) :
    Calls Try.prog 61 #[.float .f64 x] w fun e w' => e = .returned (.float .f64 (ofW (wholeI x))) ∧ w' = w := by
  have hof : floatOfInt .f64 (wholeI x) = ofW (wholeI x) := rfl
  go_enter Try.func61, Try.ntmps61
  go_wp2_with fail
  refine (partsR_walk hx _).mono ?_
  rintro e w' ⟨rfl, rfl⟩
  go_wp2_with fail
  refine (rclass_walk hx _).mono ?_
  rintro e w' ⟨rfl, rfl⟩
  go_wp2_with fail
  refine (rwhole_walk hx _).mono ?_
  rintro e w' ⟨rfl, rfl⟩
  go_wp2_with fail
  go_ret
  exact ⟨rfl, rfl⟩

theorem rfloor_down {x : Nat} (hx : x < 18446744073709551616) (hc : (classI x == 1) = false) (he : decide ((1075 : Int) ≤ (eB x : Int)) = false) (ho : FloatKind.f64.format.order (ofW (wholeI x)) x = some .gt)
    (hs : FloatKind.f64.format.sub (ofW (wholeI x)) 4607182418800017408 = some (ofW (wholeI x - 1))) (w : World) :
    Calls Try.prog 61 #[.float .f64 x] w fun e w' => e = .returned (.float .f64 (ofW (wholeI x - 1))) ∧ w' = w := by
  have hof : floatOfInt .f64 (wholeI x) = ofW (wholeI x) := rfl
  have hr : ∀ w : World, (binOp .sub 38 (.float .f64 (ofW (wholeI x))) (.float .f64 4607182418800017408)).run Try.prog w = .ok (.float .f64 (ofW (wholeI x - 1))) w := fun w => run_float_arith w .sub 38 .f64 _ _ _ hs
  clear hs
  go_enter Try.func61, Try.ntmps61
  go_wp2_with fail
  refine (partsR_walk hx _).mono ?_
  rintro e w' ⟨rfl, rfl⟩
  go_wp2_with fail
  refine (rclass_walk hx _).mono ?_
  rintro e w' ⟨rfl, rfl⟩
  go_wp2_with fail
  refine (rwhole_walk hx _).mono ?_
  rintro e w' ⟨rfl, rfl⟩
  go_wp2_with fail
  go_ret
  exact ⟨rfl, rfl⟩

theorem rfloor_walk {x : Nat} (hx : x < 18446744073709551616) (w : World) :
    Calls Try.prog 61 #[.float .f64 x] w fun e w' => e = .returned (.float .f64 (floorW x)) ∧ w' = w := by
  by_cases h : rung x = 0 ∨ 1075 ≤ eB x
  · rw [floor_same hx h]; exact rfloor_same hx h w
  · obtain ⟨hp, hf⟩ := @rung_parts x
    have h0 : rung x ≠ 0 := fun k => h (.inl k)
    have h1 : ¬ 1075 ≤ eB x := fun k => h (.inr k)
    have hl : rung x < 4841369599423283200 := by omega
    have hn : nanB x = false := by unfold nanB; simp; omega
    have hc : (classI x == 1) = false := by rw [beq_eq_false_iff_ne]; exact fun k => h0 ((class_one x).1 k)
    have he : decide ((1075 : Int) ≤ (eB x : Int)) = false := by rw [decide_eq_false_iff_not]; omega
    obtain ⟨f1, f2⟩ := floor_int hx hl h0
    obtain ⟨w1, w2⟩ := whole_int hn hl
    obtain ⟨a1, a2, a3⟩ := whole_above hn hl
    have oc := order_cases (of_lt (wholeI x)) hx (of_nan _) hn rfl
    rw [f1]
    by_cases c : negB x = true ∧ V (rung x) % UU ≠ 0
    · have hk := a1.2 c
      have ho : FloatKind.f64.format.order (ofW (wholeI x)) x = some .gt := by
        rcases oc with ⟨o, k⟩ | ⟨o, k⟩ | ⟨o, k⟩
        · omega
        · omega
        · exact o
      have e : floorI x = wholeI x - 1 := by
        rw [w1]; unfold floorI fk
        rw [c.1, if_pos rfl, if_pos rfl, if_pos ⟨rfl, c.2⟩]; omega
      rw [e]
      exact rfloor_down hx hc he ho (sub_one (by omega)) w
    · have hk : ¬ key x < key (ofW (wholeI x)) := fun k => c (a1.1 k)
      have ho : (FloatKind.f64.format.order (ofW (wholeI x)) x == some .gt) = false := by
        rcases oc with ⟨o, k⟩ | ⟨o, k⟩ | ⟨o, k⟩
        · rw [o]; rfl
        · rw [o]; rfl
        · omega
      have e : floorI x = wholeI x := by
        rw [w1]; unfold floorI fk
        cases sg : negB x
        · rfl
        · have : ¬ (true = true ∧ V (rung x) % UU ≠ 0) := fun k => c ⟨sg, k.2⟩
          rw [if_pos rfl, if_pos rfl, if_neg this]; omega
      rw [e]
      exact rfloor_stay hx hc he ho w

end Go.Proofs.Ytjkhegekojflhab
