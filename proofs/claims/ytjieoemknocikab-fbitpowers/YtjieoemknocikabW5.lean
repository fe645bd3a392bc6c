/- The statements' own first question: answers that the document fixes by number. -/
import Derived.Test.YtjieoemknocikabW4
namespace Go.Proofs.Ytjieoemknocikab
open Ieee Go.RowKit

theorem awake_walk (w : World) :
    Calls Try.prog 5 #[] w fun e w' => e = .returned (.bool true) ∧ ∃ n, w' = w.drewN n := by
  have a1 : classI 4607182418800017408 = 3 := by decide
  have a2 : ordI 9223372036854775808 0 = -1 := by decide
  have a3 : wholeI 13837084675114480435 = -2 := by decide
  have a4 : FloatKind.f64.nearest 3 = 4613937818241073152 := by decide
  have a5 : floorW 4602678819172646912 = 0 := by decide
  have a6 : floorW 13826050856027422720 = 13830554455654793216 := by decide
  have a7 : scaleR 4613937818241073152 2 = 4622945017495814144 := by decide
  have a8 : leastW 4607182418800017408 4611686018427387904 = 4607182418800017408 := by decide
  have a9 : mostW 4607182418800017408 4611686018427387904 = 4611686018427387904 := by decide
  have a10 : canonW 4617315517961601024 = 4617315517961601024 := by decide
  go_enter Try.func5, Try.ntmps5
  go_wp2_with fail
  refine (class_walk (by omega) _).mono ?_
  rintro e w' ⟨rfl, rfl⟩
  go_wp2_with fail
  refine (by_walk 9223372036854775808 _).mono ?_
  rintro e w' ⟨rfl, rfl⟩
  go_wp2_with fail
  refine (order_walk (by omega) (by omega) _).mono ?_
  rintro e w' ⟨rfl, rfl⟩
  go_wp2_with fail
  refine (whole_walk (by omega) _).mono ?_
  rintro e w' ⟨rfl, rfl⟩
  go_wp2_with fail
  refine (of_walk 3 _).mono ?_
  rintro e w' ⟨rfl, rfl⟩
  go_wp2_with fail
  refine (same_walk _ _ _).mono ?_
  rintro e w' ⟨rfl, rfl⟩
  go_wp2_with fail
  refine (floor_walk (by omega) _).mono ?_
  rintro e w' ⟨rfl, n1, rfl⟩
  go_wp2_with fail
  refine (same_walk _ _ _).mono ?_
  rintro e w' ⟨rfl, rfl⟩
  go_wp2_with fail
  refine (floor_walk (by omega) _).mono ?_
  rintro e w' ⟨rfl, n2, rfl⟩
  go_wp2_with fail
  refine (same_walk _ _ _).mono ?_
  rintro e w' ⟨rfl, rfl⟩
  go_wp2_with fail
  refine (scale_walk _ (by omega) _).mono ?_
  rintro e w' ⟨rfl, rfl⟩
  go_wp2_with fail
  refine (same_walk _ _ _).mono ?_
  rintro e w' ⟨rfl, rfl⟩
  go_wp2_with fail
  refine (least_walk (by omega) (by omega) _).mono ?_
  rintro e w' ⟨rfl, rfl⟩
  go_wp2_with fail
  refine (same_walk _ _ _).mono ?_
  rintro e w' ⟨rfl, rfl⟩
  go_wp2_with fail
  refine (most_walk (by omega) (by omega) _).mono ?_
  rintro e w' ⟨rfl, rfl⟩
  go_wp2_with fail
  refine (same_walk _ _ _).mono ?_
  rintro e w' ⟨rfl, rfl⟩
  go_wp2_with fail
  refine (canon_walk (by omega) _).mono ?_
  rintro e w' ⟨rfl, rfl⟩
  go_wp2_with fail
  refine (same_walk _ _ _).mono ?_
  rintro e w' ⟨rfl, rfl⟩
  go_wp2_with fail
  go_ret
  refine ⟨rfl, n1 + n2, ?_⟩
  simp only [World.drewN]

end Go.Proofs.Ytjieoemknocikab
