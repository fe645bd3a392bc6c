/- awake: the answers that the document fixes by number. -/
import Derived.Test.YtomjofhjmghdfaaDoorGv
import Derived.Test.YtomjofhjmghdfaaDoorGe
namespace Go.Proofs.YtomjofhjmghdfaaDoor
open Ieee Go.RowKit

theorem aw_of : ofV 2 13837084675114480435 = ⟨true, 18446744073709551614⟩ := by
  unfold ofV wholeU
  rw [if_neg (by omega), if_pos rfl]
  have e : wholeI 13837084675114480435 = -2 := by decide +kernel
  rw [e]
  rfl

theorem aw_one (x : Nat) : ofV 1 x = ⟨true, 1⟩ := by unfold ofV; rw [if_pos rfl]

theorem aw_merge : mergeV 1 ⟨true, 1⟩ ⟨true, 1⟩ = ⟨true, 2⟩ := by simp [mergeV, joinV, fitV]

theorem aw_text : textL 2 ⟨true, 18446744073709551614⟩ = [45, 50] := by
  have e1 : fitV 2 ⟨true, 18446744073709551614⟩ = ⟨true, 18446744073709551614⟩ := by unfold fitV; rw [if_neg (by simp), if_pos (by omega)]
  unfold textL
  rw [if_neg (by decide), e1, if_neg (by simp), digL, if_neg (by omega), if_pos rfl, sumL, if_neg (by show ¬ (18446744073709551614 < 9223372036854775808); omega)]
  show 45 :: Lib.decDigits 2 = _
  rw [Lib.decDigits_one (by omega)]
  rfl

theorem aw_fit : fitV 1 ⟨true, 3⟩ = ⟨true, 3⟩ := by unfold fitV; rw [if_neg (by simp), if_pos (by omega)]

theorem run_has (h : Bool) (b : Int) (w : World) : (Instr.field 27 (.agg #[.bool h, .int .u64 b]) 0).run Tryd.prog w = .ok (.bool h) w := by
  simp [Instr.field, run_underlying Tryd.underlying27, go_sem, asAgg]

theorem run_bits_of (h : Bool) (b : Int) (w : World) : (Instr.field 27 (.agg #[.bool h, .int .u64 b]) 1).run Tryd.prog w = .ok (.int .u64 b) w := by
  simp [Instr.field, run_underlying Tryd.underlying27, go_sem, asAgg]

attribute [local go_sem] run_has run_bits_of

set_option maxHeartbeats 4000000 in
theorem awake_walk (w : World) (ht : Tb w) :
    Calls Tryd.prog 9 #[] w fun e w' => e = .returned (.bool true) ∧ Below w.heap.size w w' := by
  have k4 : knownB 4 = true := by decide
  have k5 : knownB 5 = false := by decide
  go_enter Tryd.func9, Tryd.ntmps9
  go_wp2_with (go_at_call 10; refine (known_walk _ _).mono ?_; (first | rw [k4] | rw [k5]); rintro e w' ⟨rfl, rfl⟩)
  refine (aof_walk 2 (x := 13837084675114480435) (by omega) _).mono ?_
  rw [aw_of]
  rintro e w1 ⟨rfl, hB1⟩
  go_wp2_with fail
  refine (aof_walk 1 (x := 4617315517961601024) (by omega) _).mono ?_
  rw [aw_one]
  rintro e w2 ⟨rfl, hB2'⟩
  have hB2 := below_trans hB1 hB2'
  clear hB1 hB2'
  go_wp2_with fail
  refine (aof_walk 1 (x := 4618441417868443648) (by omega) _).mono ?_
  rw [aw_one]
  rintro e w3 ⟨rfl, hB3'⟩
  have hB3 := below_trans hB2 hB3'
  clear hB2 hB3'
  go_wp2_with fail
  refine (merge_walk 1 (a := ⟨true, 1⟩) (b := ⟨true, 1⟩) (by show 1 < 18446744073709551616; omega) (by show 1 < 18446744073709551616; omega) _).mono ?_
  rw [aw_merge]
  rintro e w4 ⟨rfl, hB4'⟩
  have hB4 := below_trans hB3 hB4'
  clear hB3 hB4'
  go_wp2_with fail
  refine (aof_walk 2 (x := 13837084675114480435) (by omega) _).mono ?_
  rw [aw_of]
  rintro e w5 ⟨rfl, hB5'⟩
  have hB5 := below_trans hB4 hB5'
  clear hB4 hB5'
  go_wp2_with fail
  refine (text_walk 2 (v := ⟨true, 18446744073709551614⟩) (by show 18446744073709551614 < 18446744073709551616; omega) _ (ht.below hB5)).mono ?_
  rw [aw_text]
  rintro e w6 ⟨rfl, hB6'⟩
  have hB6 := below_trans hB5 hB6'
  clear hB5 hB6'
  go_wp2_with fail
  refine (fit_walk 1 (v := ⟨true, 3⟩) (by show 3 < 18446744073709551616; omega) _).mono ?_
  rw [aw_fit]
  rintro e w7 ⟨rfl, hB7'⟩
  have hB7 := below_trans hB6 hB7'
  clear hB6 hB7'
  go_wp2_with fail
  go_ret
  exact ⟨rfl, hB7⟩
end Go.Proofs.YtomjofhjmghdfaaDoor
