/- The walk of MarkJudges. -/
import Derived.Test.YtjcmmhonidamoabKq
import Derived.Deep.RegionHeld3
namespace Go.Proofs.Ytjcmmhonidamoab
open Go.RowKit

set_option maxRecDepth 100000 in
set_option maxHeartbeats 2000000 in
theorem markjudges_walk {w : World} {kv : Value} {k : List Nat} (mb ma b a : Int) (hk : Kv w kv k) :
    Calls Try.prog 5 #[.agg #[.int .i64 mb, .int .i64 ma, kv], .int .i64 b, .int .i64 a] w fun e w' => e = .returned (.bool true) ∧ Below w.heap.size w w' := by
  have HM0 : Hid _ := mb_new w mb ma kv
  have HB0 : Hid _ := below_alloc w (Obj.cells #[.int .i64 mb, .int .i64 ma, kv] 24)
  obtain ⟨ka, kn, kc, rfl⟩ := sv_any hk
  clear hk
  go_enter Try.func5, Try.ntmps5
  go_upto_region 1 with fail
  obtain ⟨P, hP⟩ : ∃ P, P = w.heap.size := ⟨_, rfl⟩
  rw [← hP] at HM0 ⊢
  clear hP
  generalize w.alloc (Obj.cells #[.int .i64 mb, .int .i64 ma, .slice ka kn kc] 24) = w0 at HM0 HB0 ⊢
  go_wp2_with fail
  refine (awake_walk _).mono ?_
  rintro e w1 ⟨rfl, hB1⟩
  have HB1 : Hid (Below w.heap.size w w1) := below_trans HB0.out hB1
  have HM1 : Hid _ := HM0.out.keep hB1
  clear hB1 HB0 HM0
  obtain ⟨J, hJ⟩ : ∃ J, J = judI mb ma b a := ⟨_, rfl⟩
  obtain ⟨C, hC⟩ : ∃ C, C = cmpA b a mb ma := ⟨_, rfl⟩
  have HJ : Hid _ := hJ
  have HC : Hid _ := hC
  clear hJ hC
  have c0 : ∀ wx, Below w1.heap.size w1 wx → wx.cell? ⟨P, 0, none⟩ = some (.int .i64 mb) := fun wx h => (HM1.out.keep h).c0
  have c1 : ∀ wx, Below w1.heap.size w1 wx → wx.cell? ⟨P, 1, none⟩ = some (.int .i64 ma) := fun wx h => (HM1.out.keep h).c1
  have c2 : ∀ wx, Below w1.heap.size w1 wx → wx.cell? ⟨P, 2, none⟩ = some (.slice ka kn kc) := fun wx h => (HM1.out.keep h).c2
  go_wp2_with fail
  go_region_held3 (fun wx => Below w1.heap.size w1 wx) (first | assumption | exact (Below.refl _ _).drew)
    (first
      | (go_at_call 17; refine (judge_walk mb ma b a _).mono ?_; rw [← HJ.out]; rintro e w9 ⟨rfl, hB9⟩; have hS9 : Below w1.heap.size w1 w9 := below_trans (by assumption) hB9)
      | (go_at_call 18; refine (rjudge_walk mb ma b a _).mono ?_; rw [← HJ.out]; rintro e w9 ⟨rfl, hB9⟩; have hS9 : Below w1.heap.size w1 w9 := below_trans (by assumption) hB9)
      | (go_at_call 19; refine (mcmp_walk b a mb ma _).mono ?_; rw [← HC.out]; rintro e w9 ⟨rfl, rfl⟩)
      | (go_at_call 20; refine (rmcmp_walk b a mb ma _).mono ?_; rw [← HC.out]; rintro e w9 ⟨rfl, rfl⟩))
  all_goals go_wp2_with fail
  all_goals go_ret
  all_goals exact ⟨rfl, below_trans HB1.out (by assumption)⟩
end Go.Proofs.Ytjcmmhonidamoab
