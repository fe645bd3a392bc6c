/- The walk of FbitWhole: it answers true at every two whole numbers. -/
import Derived.Test.YtjieoemknocikabW5
import Derived.Test.YtjieoemknocikabFi
namespace Go.Proofs.Ytjieoemknocikab
open Ieee Go.RowKit

theorem of_walk2 (n : Int) (w : World) :
    Calls Try.prog 10 #[.int .i64 n] w fun e w' => e = .returned (.float .f64 (ofW n)) ∧ w' = w := of_walk n w

theorem of_zero {n : Int} (h1 : -9223372036854775808 ≤ n) (h2 : n ≤ 9223372036854775807) :
    (n < 0 → FloatKind.f64.format.order (ofW n) 0 = some .lt) ∧ (0 < n → FloatKind.f64.format.order (ofW n) 0 = some .gt) := by
  have hp := of_key_pos h1 h2
  rcases order_cases (y := 0) (of_lt n) (by omega) (of_nan n) (by decide) (c := 0) (by decide) with ⟨h, k⟩ | ⟨h, k⟩ | ⟨h, k⟩
  · exact ⟨fun _ => h, fun c => by omega⟩
  · exact ⟨fun c => by omega, fun c => by omega⟩
  · exact ⟨fun c => by omega, fun _ => h⟩
theorem of_order {n m : Int} (h : n ≤ m) (h1 : -9223372036854775808 ≤ n) (h2 : m ≤ 9223372036854775807) :
    FloatKind.f64.format.order (ofW n) (ofW m) = some .lt ∨ FloatKind.f64.format.order (ofW n) (ofW m) = some .eq := by
  have hk := of_key_mono h h1 h2
  rcases order_cases (of_lt n) (of_lt m) (of_nan n) (of_nan m) rfl with ⟨h, k⟩ | ⟨h, k⟩ | ⟨h, k⟩
  · exact .inl h
  · exact .inr h
  · omega


set_option maxHeartbeats 1000000 in
theorem whole_neg {n m : Int} (h1 : -9223372036854775808 ≤ n) (h4 : m ≤ 9223372036854775807) (hl : ofW n < 18446744073709551616) (c : n < 0) (z : FloatKind.f64.format.order (ofW n) 0 = some .lt) (w : World) :
    Calls Try.prog 4 #[.int .i64 n, .int .i64 m] w fun e w' => e = .returned (.bool true) ∧ ∃ n, w' = w.drewN n := by
  by_cases r : -9007199254740992 ≤ n
  · obtain ⟨hw, hf⟩ := of_exact (n := n) (by omega)
    by_cases g : m < n
    · go_enter Try.func4, Try.ntmps4
      go_wp2_with fail
      refine (awake_walk _).mono ?_
      rintro e w' ⟨rfl, n1, rfl⟩
      go_wp2_with fail
      refine (of_walk2 _ _).mono ?_
      rintro e w' ⟨rfl, rfl⟩
      go_wp2_with fail
      refine (whole_walk hl _).mono ?_
      rintro e w' ⟨rfl, rfl⟩
      go_wp2_with fail
      refine (floor_walk hl _).mono ?_
      rintro e w' ⟨rfl, n2, rfl⟩
      go_wp2_with fail
      refine (same_walk _ _ _).mono ?_
      rintro e w' ⟨rfl, rfl⟩
      go_wp2_with fail
      go_ret
      exact ⟨rfl, n1 + n2, rfl⟩
    rcases of_order (n := n) (m := m) (by omega) (by omega) h4 with o | o
    · go_enter Try.func4, Try.ntmps4
      go_wp2_with fail
      refine (awake_walk _).mono ?_
      rintro e w' ⟨rfl, n1, rfl⟩
      go_wp2_with fail
      refine (of_walk2 _ _).mono ?_
      rintro e w' ⟨rfl, rfl⟩
      go_wp2_with fail
      refine (whole_walk hl _).mono ?_
      rintro e w' ⟨rfl, rfl⟩
      go_wp2_with fail
      refine (floor_walk hl _).mono ?_
      rintro e w' ⟨rfl, n2, rfl⟩
      go_wp2_with fail
      refine (same_walk _ _ _).mono ?_
      rintro e w' ⟨rfl, rfl⟩
      go_wp2_with fail
      refine (of_walk2 _ _).mono ?_
      rintro e w' ⟨rfl, rfl⟩
      go_wp2_with fail
      go_ret
      exact ⟨rfl, n1 + n2, rfl⟩
    · go_enter Try.func4, Try.ntmps4
      go_wp2_with fail
      refine (awake_walk _).mono ?_
      rintro e w' ⟨rfl, n1, rfl⟩
      go_wp2_with fail
      refine (of_walk2 _ _).mono ?_
      rintro e w' ⟨rfl, rfl⟩
      go_wp2_with fail
      refine (whole_walk hl _).mono ?_
      rintro e w' ⟨rfl, rfl⟩
      go_wp2_with fail
      refine (floor_walk hl _).mono ?_
      rintro e w' ⟨rfl, n2, rfl⟩
      go_wp2_with fail
      refine (same_walk _ _ _).mono ?_
      rintro e w' ⟨rfl, rfl⟩
      go_wp2_with fail
      refine (of_walk2 _ _).mono ?_
      rintro e w' ⟨rfl, rfl⟩
      go_wp2_with fail
      go_ret
      exact ⟨rfl, n1 + n2, rfl⟩
  · by_cases g : m < n
    · go_enter Try.func4, Try.ntmps4
      go_wp2_with fail
      refine (awake_walk _).mono ?_
      rintro e w' ⟨rfl, n1, rfl⟩
      go_wp2_with fail
      refine (of_walk2 _ _).mono ?_
      rintro e w' ⟨rfl, rfl⟩
      go_wp2_with fail
      go_ret
      exact ⟨rfl, n1, rfl⟩
    rcases of_order (n := n) (m := m) (by omega) (by omega) h4 with o | o
    · go_enter Try.func4, Try.ntmps4
      go_wp2_with fail
      refine (awake_walk _).mono ?_
      rintro e w' ⟨rfl, n1, rfl⟩
      go_wp2_with fail
      refine (of_walk2 _ _).mono ?_
      rintro e w' ⟨rfl, rfl⟩
      go_wp2_with fail
      refine (of_walk2 _ _).mono ?_
      rintro e w' ⟨rfl, rfl⟩
      go_wp2_with fail
      go_ret
      exact ⟨rfl, n1, rfl⟩
    · go_enter Try.func4, Try.ntmps4
      go_wp2_with fail
      refine (awake_walk _).mono ?_
      rintro e w' ⟨rfl, n1, rfl⟩
      go_wp2_with fail
      refine (of_walk2 _ _).mono ?_
      rintro e w' ⟨rfl, rfl⟩
      go_wp2_with fail
      refine (of_walk2 _ _).mono ?_
      rintro e w' ⟨rfl, rfl⟩
      go_wp2_with fail
      go_ret
      exact ⟨rfl, n1, rfl⟩

set_option maxHeartbeats 1000000 in
theorem whole_pos {n m : Int} (h2 : n ≤ 9223372036854775807) (h4 : m ≤ 9223372036854775807) (hl : ofW n < 18446744073709551616) (c : 0 < n) (z : FloatKind.f64.format.order (ofW n) 0 = some .gt) (w : World) :
    Calls Try.prog 4 #[.int .i64 n, .int .i64 m] w fun e w' => e = .returned (.bool true) ∧ ∃ n, w' = w.drewN n := by
  by_cases r : n ≤ 9007199254740992
  · obtain ⟨hw, hf⟩ := of_exact (n := n) (by omega)
    by_cases g : m < n
    · go_enter Try.func4, Try.ntmps4
      go_wp2_with fail
      refine (awake_walk _).mono ?_
      rintro e w' ⟨rfl, n1, rfl⟩
      go_wp2_with fail
      refine (of_walk2 _ _).mono ?_
      rintro e w' ⟨rfl, rfl⟩
      go_wp2_with fail
      refine (whole_walk hl _).mono ?_
      rintro e w' ⟨rfl, rfl⟩
      go_wp2_with fail
      refine (floor_walk hl _).mono ?_
      rintro e w' ⟨rfl, n2, rfl⟩
      go_wp2_with fail
      refine (same_walk _ _ _).mono ?_
      rintro e w' ⟨rfl, rfl⟩
      go_wp2_with fail
      go_ret
      exact ⟨rfl, n1 + n2, rfl⟩
    rcases of_order (n := n) (m := m) (by omega) (by omega) h4 with o | o
    · go_enter Try.func4, Try.ntmps4
      go_wp2_with fail
      refine (awake_walk _).mono ?_
      rintro e w' ⟨rfl, n1, rfl⟩
      go_wp2_with fail
      refine (of_walk2 _ _).mono ?_
      rintro e w' ⟨rfl, rfl⟩
      go_wp2_with fail
      refine (whole_walk hl _).mono ?_
      rintro e w' ⟨rfl, rfl⟩
      go_wp2_with fail
      refine (floor_walk hl _).mono ?_
      rintro e w' ⟨rfl, n2, rfl⟩
      go_wp2_with fail
      refine (same_walk _ _ _).mono ?_
      rintro e w' ⟨rfl, rfl⟩
      go_wp2_with fail
      refine (of_walk2 _ _).mono ?_
      rintro e w' ⟨rfl, rfl⟩
      go_wp2_with fail
      go_ret
      exact ⟨rfl, n1 + n2, rfl⟩
    · go_enter Try.func4, Try.ntmps4
      go_wp2_with fail
      refine (awake_walk _).mono ?_
      rintro e w' ⟨rfl, n1, rfl⟩
      go_wp2_with fail
      refine (of_walk2 _ _).mono ?_
      rintro e w' ⟨rfl, rfl⟩
      go_wp2_with fail
      refine (whole_walk hl _).mono ?_
      rintro e w' ⟨rfl, rfl⟩
      go_wp2_with fail
      refine (floor_walk hl _).mono ?_
      rintro e w' ⟨rfl, n2, rfl⟩
      go_wp2_with fail
      refine (same_walk _ _ _).mono ?_
      rintro e w' ⟨rfl, rfl⟩
      go_wp2_with fail
      refine (of_walk2 _ _).mono ?_
      rintro e w' ⟨rfl, rfl⟩
      go_wp2_with fail
      go_ret
      exact ⟨rfl, n1 + n2, rfl⟩
  · by_cases g : m < n
    · go_enter Try.func4, Try.ntmps4
      go_wp2_with fail
      refine (awake_walk _).mono ?_
      rintro e w' ⟨rfl, n1, rfl⟩
      go_wp2_with fail
      refine (of_walk2 _ _).mono ?_
      rintro e w' ⟨rfl, rfl⟩
      go_wp2_with fail
      go_ret
      exact ⟨rfl, n1, rfl⟩
    rcases of_order (n := n) (m := m) (by omega) (by omega) h4 with o | o
    · go_enter Try.func4, Try.ntmps4
      go_wp2_with fail
      refine (awake_walk _).mono ?_
      rintro e w' ⟨rfl, n1, rfl⟩
      go_wp2_with fail
      refine (of_walk2 _ _).mono ?_
      rintro e w' ⟨rfl, rfl⟩
      go_wp2_with fail
      refine (of_walk2 _ _).mono ?_
      rintro e w' ⟨rfl, rfl⟩
      go_wp2_with fail
      go_ret
      exact ⟨rfl, n1, rfl⟩
    · go_enter Try.func4, Try.ntmps4
      go_wp2_with fail
      refine (awake_walk _).mono ?_
      rintro e w' ⟨rfl, n1, rfl⟩
      go_wp2_with fail
      refine (of_walk2 _ _).mono ?_
      rintro e w' ⟨rfl, rfl⟩
      go_wp2_with fail
      refine (of_walk2 _ _).mono ?_
      rintro e w' ⟨rfl, rfl⟩
      go_wp2_with fail
      go_ret
      exact ⟨rfl, n1, rfl⟩

set_option maxHeartbeats 1000000 in
theorem whole_zero {m : Int} (h4 : m ≤ 9223372036854775807) (w : World) :
    Calls Try.prog 4 #[.int .i64 0, .int .i64 m] w fun e w' => e = .returned (.bool true) ∧ ∃ n, w' = w.drewN n := by
  have e0 : ofW 0 = 0 := nearest_zero false 0
  obtain ⟨hw, hf⟩ := of_exact (n := 0) (by omega)
  rw [e0] at hw hf
  have z : FloatKind.f64.format.order 0 0 = some .eq := by decide
  by_cases g : m < 0
  · go_enter Try.func4, Try.ntmps4
    go_wp2_with fail
    refine (awake_walk _).mono ?_
    rintro e w' ⟨rfl, n1, rfl⟩
    go_wp2_with fail
    refine (of_walk2 _ _).mono ?_
    rintro e w' ⟨rfl, rfl⟩
    go_wp2_with fail
    refine (whole_walk (by omega) _).mono ?_
    rintro e w' ⟨rfl, rfl⟩
    go_wp2_with fail
    refine (floor_walk (by omega) _).mono ?_
    rintro e w' ⟨rfl, n2, rfl⟩
    go_wp2_with fail
    refine (same_walk _ _ _).mono ?_
    rintro e w' ⟨rfl, rfl⟩
    go_wp2_with fail
    refine (same_walk _ _ _).mono ?_
    rintro e w' ⟨rfl, rfl⟩
    go_wp2_with fail
    go_ret
    exact ⟨rfl, n1 + n2, rfl⟩
  rcases of_order (n := 0) (m := m) (by omega) (by omega) h4 with o | o
  · rw [e0] at o
    go_enter Try.func4, Try.ntmps4
    go_wp2_with fail
    refine (awake_walk _).mono ?_
    rintro e w' ⟨rfl, n1, rfl⟩
    go_wp2_with fail
    refine (of_walk2 _ _).mono ?_
    rintro e w' ⟨rfl, rfl⟩
    go_wp2_with fail
    refine (whole_walk (by omega) _).mono ?_
    rintro e w' ⟨rfl, rfl⟩
    go_wp2_with fail
    refine (floor_walk (by omega) _).mono ?_
    rintro e w' ⟨rfl, n2, rfl⟩
    go_wp2_with fail
    refine (same_walk _ _ _).mono ?_
    rintro e w' ⟨rfl, rfl⟩
    go_wp2_with fail
    refine (same_walk _ _ _).mono ?_
    rintro e w' ⟨rfl, rfl⟩
    go_wp2_with fail
    refine (of_walk2 _ _).mono ?_
    rintro e w' ⟨rfl, rfl⟩
    go_wp2_with fail
    go_ret
    exact ⟨rfl, n1 + n2, rfl⟩
  · rw [e0] at o
    go_enter Try.func4, Try.ntmps4
    go_wp2_with fail
    refine (awake_walk _).mono ?_
    rintro e w' ⟨rfl, n1, rfl⟩
    go_wp2_with fail
    refine (of_walk2 _ _).mono ?_
    rintro e w' ⟨rfl, rfl⟩
    go_wp2_with fail
    refine (whole_walk (by omega) _).mono ?_
    rintro e w' ⟨rfl, rfl⟩
    go_wp2_with fail
    refine (floor_walk (by omega) _).mono ?_
    rintro e w' ⟨rfl, n2, rfl⟩
    go_wp2_with fail
    refine (same_walk _ _ _).mono ?_
    rintro e w' ⟨rfl, rfl⟩
    go_wp2_with fail
    refine (same_walk _ _ _).mono ?_
    rintro e w' ⟨rfl, rfl⟩
    go_wp2_with fail
    refine (of_walk2 _ _).mono ?_
    rintro e w' ⟨rfl, rfl⟩
    go_wp2_with fail
    go_ret
    exact ⟨rfl, n1 + n2, rfl⟩

theorem whole_law {n m : Int} (h1 : -9223372036854775808 ≤ n) (h2 : n ≤ 9223372036854775807) (h4 : m ≤ 9223372036854775807) (w : World) :
    Calls Try.prog 4 #[.int .i64 n, .int .i64 m] w fun e w' => e = .returned (.bool true) ∧ ∃ n, w' = w.drewN n := by
  have hl := of_lt n
  have hz := of_zero h1 h2
  rcases Int.lt_trichotomy n 0 with c | c | c
  · exact whole_neg h1 h4 hl c (hz.1 c) w
  · subst c; exact whole_zero h4 w
  · exact whole_pos h2 h4 hl c (hz.2 c) w

theorem i64_wf {n : Int} (h : (Lit.int .i64 n).wf = true) : -9223372036854775808 ≤ n ∧ n ≤ 9223372036854775807 := by
  have := h
  simp only [Lit.wf, Bool.and_eq_true, decide_eq_true_eq] at this
  exact this
theorem whole_row {n m : Int} (w0 : (Lit.int .i64 n).wf = true) (w1 : (Lit.int .i64 m).wf = true) (w : World) :
    Calls Try.prog 4 #[.int .i64 n, .int .i64 m] w fun e w' => e = .returned (.bool true) ∧ ∃ n, w' = w.drewN n :=
  whole_law (i64_wf w0).1 (i64_wf w0).2 (i64_wf w1).2 w

end Go.Proofs.Ytjieoemknocikab
